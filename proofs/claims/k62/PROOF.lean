import PyProof.Rows.All
import Wide.All
import OpenK.AllK
import Wide.FinOn
import HandS.ForMost
import HandS.Base
import HandS.Call
import HandS.List
import HandS.Comp
import HandS.Ends
import HandS.Words
import PyProof.ReprRoads
import PyProof.ReprLen
import PyProof.ReprText
import HandS.Wide
import HandS.WideBits
import HandS.Style
import HandS.Zip
import HandS.Flow
import PyProof.Rows.RuleB_pow
import PyProof.FitsInt
import PyProof.Rows.StrJoinMade
import HandS.IsInst
import HandS.TupAny
import HandS.Text
import PyProof.Rows.ReprOcc
import PyProof.FitsReplace
import PyProof.StrLawsRepr
import HandS.Replace
import HandS.Conv
import HandS.Sort
import HandS.Iter
import HandS.TupMul
import KE.GoesMore
import HandS.Rev
import HandS.Strs
import PySem.Challenge.RW_localblocks_k62_texts_of_trees
set_option Elab.async false
set_option linter.all false
set_option maxRecDepth 100000
namespace Loc
open PySem PySem.Spec PyProof.Rows L2
/-! ### defs that are entered while no repr is under way -/
/-- as FnOk, for such an entry alone -/
structure FnG (P : Program) (w : World) (K : PySem.W.Frag) (mg : Str → Option Value) (base : Heap) (CX : CXT)
    (k : Nat) (f : Addr) (fd : FuncData) (ps : List Str) (sp : Sp) : Prop where
  cnt : ∀ {vs H Q E}, sp vs H Q E → vs.length = ps.length
  go : ∀ {A : Around} {out : List Env} {s : Shared} {H : Hp} {ar : Args} {us : List Value} {vs : List V} {Q : VK} {E : XK},
    A.guards = some [] → Room k A → Env0 P w K mg base A out s H → BindsTo s fd ar (ps.zip us) → Vals vs us → sp vs H Q E →
    codeAny (model P w) A (.call (.ref f) ar) (CR CX out P w H s Q E) s
section
variable {P : Program} {w : World} {K : PySem.W.Frag} {mg : Str → Option Value} {base : Heap} {CX : CXT} {k : Nat} {f : Addr} {fd : FuncData} {ps : List Str} {sp : Sp}
theorem FnG.of (F : FnOk P w K mg base CX k f fd ps sp) : FnG P w K mg base CX k f fd ps sp :=
  ⟨fun h => F.len _ _ _ _ h, fun _ hr he hb hv hs => F.run _ _ _ _ _ _ _ _ _ hr he hb hv hs⟩
theorem FnG.up {j : Nat} (F : FnG P w K mg base CX j f fd ps sp) (h : j ≤ k) : FnG P w K mg base CX k f fd ps sp :=
  ⟨F.cnt, fun g hr he hb hv hs => F.go g (hr.mono h) he hb hv hs⟩
/-- a def by its body, entered while no repr is under way -/
theorem fun_okG {x qual : Str} {st : Stmt} {N : List Str} (F : Fun K x qual st f fd) (S : FnScope N ps (defScope st)) (len : ∀ vs H Q E, sp vs H Q E → vs.length = ps.length)
    (hb : ∀ (cdv : Value) (A : Around) (out : List Env) (s : Shared) (H : Hp) (vs : List V) (Q : VK) (E : XK), A.guards = some [] →
      Room k (A.deeper (envOfC qual (defScope st) s.heap.objs.size f cdv)) → sp vs H Q E →
      ∃ t, PSs (cxOf CX P w K mg base N qual (defScope st) f cdv A out s H E).nox (defBody st) t ∧ t { nx := fun _ H' => Q .non H', rt := Q } (start N vs) H) :
    FnG P w K mg base CX (k + 1) f fd ps sp := by
  refine ⟨fun h => len _ _ _ _ h, fun {A out s H ar us vs Q E} hg hr e0 hbd r hsp => ?_⟩
  obtain ⟨oc, od, kV, doc, pm, an, cdv, ct, osl, rfl, lk, hcd⟩ := F.ex
  obtain ⟨t, ht, hq⟩ := hb cdv A out s H vs Q E hg (hr.deeper _) hsp
  have KX : K.In s.heap := e0.mod.kin.keeps fun b o e => (e0.bs b o e).1
  have lim : s.heap.NoLimit := e0.mod.nolimit.keeps fun b o e => (e0.bs b o e).1
  have kinds : ∀ y ∈ ps.zip us, (defScope st).names.lookup y.1 = some .local ∨ ((defScope st).names.lookup y.1 = some .cell ∧
      ((cellsFrom (s.heap.objs.size + 1) (defScope st).names []).lookup y.1).isSome = true) := by
    rintro ⟨n, v⟩ hy
    exact (S.par n (List.of_mem_zip hy).1).elim .inl fun q => .inr ⟨q, PySem.W.cellsFrom_some _ _ _ (.inl q)⟩
  refine codeAny_call_function hr.depth (KX _ _ lk) rfl S.co S.gen rfl (PySem.W.codeRec_of KX hcd) (hbd _ _ _ _ ?_)
  refine wpAny_newFunctionEnv_cells S.kind kinds fun env he s1 x => ?_
  subst he
  refine ⟨lim.keeps x.toInCall.keep, codeAny_func ?_⟩
  have I := inv_start (CX := CX) (E := E) (P := P) (w := w) S hr.hd e0 (len _ _ _ _ hsp) r x
  refine wpAny_mono (ht.nox.run [] s1 (start N vs) H _ I hq) (fun fl s' hs => ?_) fun _ _ hs => hs
  cases fl with
  | ret u => exact let ⟨v, σ', H', J, rv, q⟩ := hs; ⟨v, H', J.os, J.bare, J.base, J.hok, rv, q⟩
  | next => exact let ⟨σ', H', J, q⟩ := hs; ⟨V.non, H', J.os, J.bare, J.base, J.hok, rfl, q⟩
  | brk => exact let ⟨_, _, _, q⟩ := hs; q.elim
  | cont => exact let ⟨_, _, _, q⟩ := hs; q.elim
end
/-! ### repr of nested data -/
/-- repr(v), v nested data (no dict) that a heap bears -/
def rRep (K : PySem.W.Frag) : List V → Hp → VK → Prop := fun xs H Q => ∃ a d, xs = [.ref a] ∧ Dp K H (.ref a) d ∧
  d.showable = true ∧ d.hasDict = false ∧ d.depth ≤ 62 ∧ d.shown.length ≤ sizeLine ∧ Q (.str d.shown) H
theorem call_rep {X : Cx} {k : Nat} (hr : Room k X.A) (hg : X.A.guards = some []) : CallR X (.builtin "repr") (rRep X.K) := by
  intro pins s σ H xs us Q I r h
  obtain ⟨a, d, rfl, hd, h1, h2, h3, h4, q⟩ := h
  obtain ⟨u, rfl, ru⟩ := vals1 r
  cases ru
  obtain ⟨as, rd⟩ := Dp.reads I d _ _ hd rfl
  have hu := hr.units
  exact repr_of_reads' rd h1 (PyData.noDict_hsm h2) hg (by omega) (fun _ _ e => e) (fun h' u tk hk => ⟨.str d.shown, H, I.kept hk, ⟨u, rfl⟩, q⟩) h4
/-! ### nested data that a heap bears -/
theorem DpAll.ints {K : PySem.W.Frag} {H : Hp} : ∀ ns : List Int, DpAll K H (ns.map V.int) (ns.map PyData.int)
  | [] => .nil
  | n :: r => .cons (.int n) (DpAll.ints r)
mutual
theorem Dp.same {K : PySem.W.Frag} {H H' : Hp} (e : ∀ a, (∀ xs, SqL K H a xs → SqL K H' a xs) ∧ ∀ xs, SqT K H a xs → SqT K H' a xs) : ∀ {v : V} {d : PyData}, Dp K H v d → Dp K H' v d
  | _, _, .non => .non
  | _, _, .bl b => .bl b
  | _, _, .int i => .int i
  | _, _, .str x => .str x
  | _, _, .lst h t => .lst ((e _).1 _ h) (DpAll.same e t)
  | _, _, .tup h t => .tup ((e _).2 _ h) (DpAll.same e t)
theorem DpAll.same {K : PySem.W.Frag} {H H' : Hp} (e : ∀ a, (∀ xs, SqL K H a xs → SqL K H' a xs) ∧ ∀ xs, SqT K H a xs → SqT K H' a xs) : ∀ {vs : List V} {ds : List PyData}, DpAll K H vs ds → DpAll K H' vs ds
  | _, _, .nil => .nil
  | _, _, .cons h t => .cons (Dp.same e h) (DpAll.same e t)
end
end Loc

set_option Elab.async false
set_option linter.all false
set_option maxRecDepth 100000
namespace Loc
open PySem PySem.Spec PyProof.Rows L2
/-- the law's call, its def entered while no repr is under way -/
theorem callG {P : Program} {w : World} {K : PySem.W.Frag} {mg mb : Str → Option Value} {k : Nat} {fa a : Addr} {fd : FuncData} {x : Str} {sp : Sp} {s : Shared} {vs : List Value} {ns : List Int}
    (KX : K.In s.heap) (g1 : s.heap.Ns mainGlobals mg) (g2 : s.heap.Ns builtinsNs mb) (g3 : ∀ x : Str, x ≠ "__name__" → mb x = bootBuiltins x) (lim : s.heap.NoLimit) (gs : s.gens = #[])
    (ha : s.heap.get? a = some { cls := .type "list", data := .seq vs.toArray }) (hi : IntsAre vs ns) (hl : ns.length ≤ sizeLine) (hr : Room k callerA)
    (F : ∀ base : Heap, K.In base → base.Ns mainGlobals mg → FnG P w K mg base CX0 k fa fd [x] sp) (hb : ∀ (s : Shared) (u : Value), BindsTo s fd ⟨[u], []⟩ [(x, u)])
    (hsp : ∀ H : Hp, SqL K H a (ns.map V.int) → sp [.ref a] H (fun v _ => v = .bl true) fun _ _ _ => False) :
    codeAny (model P w) callerA (.call (.ref fa) ⟨[.ref a], []⟩) (fun r s' => r = .ok (.ret (.bool true)) ∧ OldK s.heap s'.heap ∧ s'.os = s.os ∧ AllBare s'.gens) s := by
  have rv := vals_ints hi
  have ln := hi.length
  -- H tracks at most the script, and that only where the module has not written it
  have main : ∀ H : Hp, (∀ b, H b = none ∨ (b = a ∧ K.lookup a = none ∧ ∃ o xs, H b = some (.frz o (.lst xs)))) → SqL K H a (ns.map V.int) → HOk P w H s.heap →
      codeAny (model P w) callerA (.call (.ref fa) ⟨[.ref a], []⟩) (fun r s' => r = .ok (.ret (.bool true)) ∧ OldK s.heap s'.heap ∧ s'.os = s.os ∧ AllBare s'.gens) s := by
    intro H only sq hok
    have nsOf : ∀ {b : Addr} {m : Str → Option Value}, s.heap.Ns b m → (hidT s.heap H).Ns b m := by
      rintro b m ⟨o, es, ep, e, d, r⟩
      refine ⟨o, es, ep, hidT_get e ?_, d, r⟩
      rcases only b with z | ⟨rfl, _, _⟩
      · exact z
      · rw [ha] at e
        cases e
        exact Data.noConfusion d
    have kb : K.In (hidT s.heap H) := fun b o e => hidT_get (KX b o e) (by
      rcases only b with z | ⟨rfl, z, _⟩
      · exact z
      · rw [z] at e
        cases e)
    obtain ⟨mc, l1, l2⟩ := lim
    have e0 : Env0 P w K mg (hidT s.heap H) callerA [] s H :=
      { frames := rfl, mod := ⟨kb, nsOf g1, ⟨mb, nsOf g2, g3⟩, ⟨mc, nsOf l1, l2⟩⟩, bs := fun _ _ e => of_hidT e, bsz := Nat.le_of_eq (hidT_size _ _), funs := trivial,
        frf := fun b hb => absurd (show b ∈ ([] : List Addr) from hb) List.not_mem_nil, hok := hok, bare := .of_eq gs }
    refine codeAny_mono ((F _ kb (nsOf g1)).go (us := [.ref a]) (vs := [.ref a]) rfl hr e0 (hb s (.ref a)) (.cons rfl .nil) (hsp H sq)) fun r s' h => ?_
    match r, h with
    | .error e, h => exact h.elim
    | .ok .next, h => exact h.elim
    | .ok .brk, h => exact h.elim
    | .ok .cont, h => exact h.elim
    | .ok (.ret u), ⟨v, H', os, bare, un, hok', rel, q⟩ =>
      have q' : v = .bl true := q
      subst q'
      have ru : u = Value.bool true := rel
      subst ru
      refine ⟨rfl, OldK.of_keep fun b o e => ?_, os, bare⟩
      rcases only b with z | ⟨_, _, ob, xs, z⟩
      · exact un.keep b o e z (fun m => absurd (show b ∈ ([] : List Addr) from m) List.not_mem_nil) List.not_mem_nil
      · have o1 := (hok b _ z).1
        have o2 := (hok' b _ (un.frzs b ob _ z)).1
        rw [e] at o1
        cases o1
        exact o2
  cases hk : K.lookup a with
  | some o =>
    have e := KX a o hk
    rw [ha] at e
    cases e
    refine main (fun _ => none) (fun _ => .inl rfl) (.inr ⟨_, vs.toArray, _, hk, rfl, rfl, rfl, ?_, by simpa using rv⟩) fun b u z => nomatch (show (none : Option HO) = some u from z)
    rw [List.size_toArray, ln]
    exact hl
  | none =>
    refine main (fun b => if b = a then some (.frz { cls := .type "list", data := .seq vs.toArray } (.lst (ns.map V.int))) else none) (fun b => ?_) (.inl (.inr ⟨_, if_pos rfl⟩)) fun b u z => ?_
    · by_cases e : b = a
      · exact .inr ⟨e, hk, _, _, if_pos e⟩
      · exact .inl (if_neg e)
    · by_cases e : b = a
      · have z' := (if_pos e).symm.trans z
        cases z'
        rw [e]
        exact ⟨ha, by rw [List.length_map]; exact hl, vs, _, rv, ha⟩
      · have z' := (if_neg e).symm.trans z
        cases z'
/-- the goal that k_head leaves, from such a promise of the law's def -/
theorem walkG {l : PySem.W.OpenLaw} {n k : Nat} {q : Program} {loose : List Str} {XP : (Str → Option Value) → Heap → Prop} {YP : World → Heap → Prop} {d : DefRec} {K : Params → PySem.W.Frag} {sp : PySem.W.Frag → Sp} {x : Str}
    (hn : l.most = some n) (hz : n ≤ sizeLine) (hd : d.params.defaults = []) (hr : Room k callerA) (hY : ∀ (w : World) (h : Heap), YP w h → (K w.params).In h)
    (F : ∀ (w : World) (mg : Str → Option Value) (fa : Addr) (h : Heap), (K w.params).In h → h.Ns mainGlobals mg → mg d.name = some (.ref fa) →
      ∃ fd : FuncData, (∀ (s : Shared) (u : Value), BindsTo s fd ⟨[u], []⟩ [(x, u)]) ∧
        ∀ base : Heap, (K w.params).In base → base.Ns mainGlobals mg → FnG l.prog w (K w.params) mg base CX0 k fa fd [x] (sp (K w.params)))
    (hsp : ∀ (K : PySem.W.Frag) (H : Hp) (a : Addr) (ns : List Int), ns.length ≤ n → SqL K H a (ns.map V.int) → sp K [.ref a] H (fun v _ => v = .bl true) fun _ _ _ => False) :
    PySem.W.WalkO q loose XP YP l.row.toRowW d [] (fun f vs => PySem.call f vs) := by
  refine Att.attach_call hn hd fun w s0 s1 mg mb fa o pm cd doc a vs ns G Y ho hd' hcd hmg hobj hints hlen hg => ?_
  obtain ⟨fd, hb, hF⟩ := F w mg fa _ (hY w _ Y) G.T.g hmg
  exact callG (hY w _ Y) G.T.g G.T.b G.T.builtins G.T.nolimit hg hobj hints (Nat.le_trans hlen hz) hr hF hb fun H hS => hsp _ H a ns hlen hS
end Loc

set_option Elab.async false
set_option linter.all false
set_option maxRecDepth 100000
/-! ### the heap but for one object -/
namespace Loc
open PySem PySem.Spec PyProof.Rows L2
/-- all but what stands at p is as it was -/
def But (p : Addr) (H H' : Hp) : Prop := ∀ b o, b ≠ p → H b = some o → H' b = some o
theorem But.refl (p : Addr) (H : Hp) : But p H H := fun _ _ _ h => h
theorem But.trans {p : Addr} {H H1 H2 : Hp} (a : But p H H1) (b : But p H1 H2) : But p H H2 := fun c o n h => b c o n (a c o n h)
theorem But.set {p : Addr} {H : Hp} {o : HO} : But p H (upd H p o) := fun b _ n h => by rw [upd_ne n]; exact h
theorem But.new {p q : Addr} {H : Hp} {o : HO} (h : H q = none) : But p H (upd H q o) := fun b _ _ e => by rw [upd_ne (ne_of_none e h)]; exact e
theorem But.at {p b : Addr} {H H' : Hp} {o : HO} (e : But p H H') (n : b ≠ p) (h : H b = some o) : H' b = some o := e b o n h
theorem But.sql {p a : Addr} {K : PySem.W.Frag} {H H' : Hp} {xs : List V} (e : But p H H') (n : a ≠ p) (h : SqL K H a xs) : SqL K H' a xs := by
  rcases h with (h | ⟨o, h⟩) | h
  · exact .inl (.inl (e _ _ n h))
  · exact .inl (.inr ⟨o, e _ _ n h⟩)
  · exact .inr h
/-- a tuple is no list -/
theorem But.sqt {p a : Addr} {K : PySem.W.Frag} {H H' : Hp} {xs ys : List V} (e : But p H H') (hp : H p = some (.lst ys)) (h : SqT K H a xs) : SqT K H' a xs := by
  rcases h with (h | ⟨o, h⟩) | h
  · exact .inl (.inl (e _ _ (ne_of h hp (by intro z; cases z)) h))
  · exact .inl (.inr ⟨o, e _ _ (ne_of h hp (by intro z; cases z)) h⟩)
  · exact .inr h
/-! ### the pot that the law draws from -/
/-- a pot's three numbers, drawn from at most c times -/
def PotO (o : HO) (c : Nat) : Prop := ∃ own mix cnt : Int, o = .lst [.int own, .int mix, .int cnt] ∧ 0 ≤ own ∧ own < 2 ^ 1000 ∧ 0 ≤ mix ∧ mix < 2305843009213693952 ∧ 0 ≤ cnt ∧ cnt ≤ c
def Pot (H : Hp) (p : Addr) (c : Nat) : Prop := ∃ o, H p = some o ∧ PotO o c
theorem PotO.le {o : HO} {c d : Nat} (h : PotO o c) (l : c ≤ d) : PotO o d := by
  obtain ⟨a, b, e, h1, h2, h3, h4, h5, h6, h7⟩ := h
  exact ⟨a, b, e, h1, h2, h3, h4, h5, h6, by omega⟩
theorem Pot.le {H : Hp} {p : Addr} {c d : Nat} (h : Pot H p c) (l : c ≤ d) : Pot H p d := let ⟨o, e, q⟩ := h; ⟨o, e, q.le l⟩
theorem Pot.ls {H : Hp} {p : Addr} {c : Nat} (h : Pot H p c) : ∃ ys, H p = some (.lst ys) := by
  obtain ⟨o, e, a, b, z, rfl, _⟩ := h
  exact ⟨_, e⟩
theorem Pot.new {H : Hp} {p q : Addr} {c : Nat} {o : HO} (h : Pot H p c) (n : H q = none) : Pot (upd H q o) p c := by
  obtain ⟨x, e, r⟩ := h
  exact ⟨x, by rw [upd_ne (ne_of_none e n)]; exact e, r⟩
theorem Pot.oth {H : Hp} {p q : Addr} {c : Nat} {o : HO} (h : Pot H p c) (n : p ≠ q) : Pot (upd H q o) p c := by
  obtain ⟨x, e, r⟩ := h
  exact ⟨x, by rw [upd_ne n]; exact e, r⟩
theorem Pot.put {H : Hp} {p : Addr} {c : Nat} {o : HO} (h : PotO o c) : Pot (upd H p o) p c := ⟨o, upd_same, h⟩

/-- script: the script; k: a small number -/
def spPot (K : PySem.W.Frag) : Sp := fun vs H Q _ => ∃ (a : Addr) (ns : List Int) (k : Nat), vs = [.ref a, .int k] ∧ SqL K H a (ns.map V.int) ∧ ns.length ≤ 1000 ∧ k ≤ 1000 ∧
  ∀ p o, H p = none → PotO o 0 → Q (.ref p) (upd H p o)
def spTake : Sp := fun vs H Q _ => ∃ (p : Addr) (b : Int) (c : Nat), vs = [.ref p, .int b] ∧ Pot H p c ∧ c < 1000000 ∧ 0 < b ∧ b < 2 ^ 1000 ∧
  ∀ (d : Int) H', 0 ≤ d → d < b → But p H H' → Pot H' p (c + 1) → Q (.int d) H'
def spOf : Sp := fun vs H Q _ => ∃ (p a : Addr) (xs : List V) (c : Nat), vs = [.ref p, .ref a] ∧ Pot H p c ∧ c < 1000000 ∧ a ≠ p ∧ H a = some (.lst xs) ∧ xs ≠ [] ∧ xs.length ≤ 1000 ∧
  ∀ (j : Nat) (x : V) H', xs[j]? = some x → But p H H' → Pot H' p (c + 1) → Q x H'

/-- ** of a great number -/
def CPowW (i j : Int) : Prop := 0 ≤ j ∧ (Builtin.Int.intBits i : Int) * j ≤ 2 ^ 27
theorem op_powW {X : Cx} : OpR X (binaryOp .Pow) (rI CPowW fun i j => .int (i ^ j.toNat)) := opI fun _ _ _ _ _ _ _ hc q => pow_int hc.1 hc.2 q
theorem pow60 : CPowW ((10 : Int) ^ (60 : Int).toNat) 5 := ⟨by decide, by decide +kernel⟩
theorem small_line {n : Nat} (h : n ≤ 100000) : n ≤ sizeLine := Nat.le_trans h (by decide)
theorem small_line' {n : Nat} (h : n ≤ 100000) : n < sizeLine := Nat.lt_of_le_of_lt h (by decide)
end Loc
namespace Loc
open PySem PySem.Spec PyProof.Rows L2
/-- two ways that meet in what S says of the value -/
theorem joinIf {b : Bool} {ta tb : TE} {σ : L2.St} {H : Hp} {Q : VK} (S : VK) (key : ∀ v H', S v H' → Q v H') (h1 : b = true → ∀ R : VK, (∀ v H', S v H' → R v H') → ta σ H R)
    (h2 : b = false → ∀ R : VK, (∀ v H', S v H' → R v H') → tb σ H R) : if b = true then ta σ H Q else tb σ H Q := by
  cases b
  · rw [if_neg Bool.false_ne_true]
    exact h2 rfl Q key
  · rw [if_pos rfl]
    exact h1 rfl Q key
theorem mod_pos {a m : Int} (h : 0 < m) : 0 ≤ a % m ∧ a % m < m := ⟨Int.emod_nonneg _ (by omega), Int.emod_lt_of_pos _ h⟩
theorem pow300 : ((10 : Int) ^ (60 : Int).toNat) ^ (5 : Int).toNat < 2 ^ 1000 := by decide +kernel
theorem pow300' : 0 < ((10 : Int) ^ (60 : Int).toNat) ^ (5 : Int).toNat := by decide +kernel
end Loc
namespace Loc
theorem bit_small (b : Bool) : -(2 ^ 64) < (if b = true then (1 : Int) else 0) ∧ (if b = true then (1 : Int) else 0) < 2 ^ 64 := by
  cases b <;> decide
theorem mul_bit {a m : Int} (h : 0 ≤ a ∧ a < m) (b : Bool) : 0 ≤ a * (if b = true then (1 : Int) else 0) ∧ a * (if b = true then (1 : Int) else 0) < m := by
  cases b
  · rw [if_neg Bool.false_ne_true, Int.mul_zero]
    omega
  · rw [if_pos rfl, Int.mul_one]
    exact h
end Loc
namespace Loc
theorem natAbs_lt {b : Int} {n : Nat} (h0 : 0 ≤ b) (h : b < 2 ^ n) : b.natAbs < 2 ^ n := by
  obtain ⟨m, rfl⟩ := Int.eq_ofNat_of_zero_le h0
  rw [← PySem.W.kbt_cast n] at h
  exact Int.ofNat_lt.mp h
theorem div_small {a b : Int} (h0 : 0 ≤ a) (h : 0 < b) : 0 ≤ a / b ∧ a / b ≤ a := ⟨Int.ediv_nonneg h0 (by omega), Int.ediv_le_self b h0⟩
/-- the five numbers that a draw is reckoned with -/
theorem prime_at {n : Int} (h : 0 ≤ n) : ∃ q : Int, L2.atI [L2.V.int 2147483647, .int 2147483629, .int 2147483587, .int 2147483579, .int 2147483563] (n % 5) = some (.int q) ∧ 0 < q ∧ q < 2147483648 := by
  have m := Int.emod_nonneg n (show (5 : Int) ≠ 0 by decide)
  have l := Int.emod_lt_of_pos n (show (0 : Int) < 5 by decide)
  generalize n % 5 = r at m l
  have c : r = 0 ∨ r = 1 ∨ r = 2 ∨ r = 3 ∨ r = 4 := by omega
  rcases c with rfl | rfl | rfl | rfl | rfl
  · exact ⟨2147483647, rfl, by decide, by decide⟩
  · exact ⟨2147483629, rfl, by decide, by decide⟩
  · exact ⟨2147483587, rfl, by decide, by decide⟩
  · exact ⟨2147483579, rfl, by decide, by decide⟩
  · exact ⟨2147483563, rfl, by decide, by decide⟩
/-- what stands under the third power -/
theorem base_small {mix c : Int} (h3 : 0 ≤ mix) (h4 : mix < 2305843009213693952) (h5 : 0 ≤ c) (h6 : c ≤ 1000000) : 0 ≤ mix + 99991 * c * c + 29 ∧ mix + 99991 * c * c + 29 < 2 ^ 64 := by
  have k1 : 0 ≤ c * c := Int.mul_nonneg h5 h5
  have k2 : c * c ≤ 1000000 * 1000000 := Int.mul_le_mul h6 h6 h5 (by decide)
  rw [Int.mul_assoc]
  omega
end Loc
namespace Loc
theorem small_pow {n : Nat} (h : n ≤ 1000) : (n : Int) < 2 ^ 1000 := Int.lt_of_le_of_lt (show (n : Int) ≤ 1000 by omega) (by decide +kernel)
end Loc
namespace Loc
open PySem PySem.Spec PyProof.Rows L2
theorem sameT {K : PySem.W.Frag} {H H' : Hp} {a : Addr} {xs : List V} (e : Same H H') (h : SqT K H a xs) : SqT K H' a xs := by
  rcases h with (h | ⟨o, h⟩) | h
  · exact .inl (.inl (e _ _ h))
  · exact .inl (.inr ⟨o, e _ _ h⟩)
  · exact .inr h
theorem sameN {H : Hp} {p : Addr} {o : HO} (h : H p = none) : Same H (upd H p o) := fun b x e => by rw [upd_ne (ne_of_none e h)]; exact e
/-- a new object is written again -/
theorem sameW {H H' : Hp} {p : Addr} {o : HO} (e : Same H H') (h : H p = none) : Same H (upd H' p o) := fun b x q => by rw [upd_ne (ne_of_none q h)]; exact e b x q
theorem Same.but {H H' : Hp} {p : Addr} (e : Same H H') : But p H H' := fun b o _ h => e b o h
theorem But.same {H H' : Hp} {p : Addr} (e : But p H H') (h : H p = none) : Same H H' := fun b o q => e b o (ne_of_none q h) q
/-- a new object is written again -/
theorem But.wr {p q : Addr} {H H' : Hp} {o : HO} (e : But p H H') (h : H q = none) : But p H (upd H' q o) := fun b x n r => by rw [upd_ne (ne_of_none r h)]; exact e b x n r
theorem small_take {α : Type} {l : List α} {i n : Nat} (h : l.length ≤ n) : (l.take i).length ≤ n := by
  rw [List.length_take]
  omega
theorem line5 {n : Nat} (h : n ≤ 100000) : n < sizeLine := small_line' h
end Loc
namespace Loc
open PySem PySem.Spec PyProof.Rows L2
/-- a list or a tuple -/
def SqA (K : PySem.W.Frag) (H : Hp) (a : Addr) (xs : List V) : Prop := SqL K H a xs ∨ SqT K H a xs
theorem SqA.same {K : PySem.W.Frag} {H H' : Hp} {a : Addr} {xs : List V} (h : SqA K H a xs) (e : Same H H') : SqA K H' a xs := h.imp e.seq (sameT e)
theorem SqA.ix {K : PySem.W.Frag} {H : Hp} {a : Addr} {xs : List V} {i : Int} {v : V} {Q : VK} (h : SqA K H a xs) (e : atI xs i = some v) (q : Q v H) : rIx K (.ref a) (.int i) H Q := by
  rcases h with h | h
  · exact .inl ⟨a, xs, i, v, rfl, rfl, h, e, q⟩
  · exact .inr (.inl ⟨a, xs, i, v, rfl, rfl, h, e, q⟩)
theorem half_pow (x t : Nat) : ((x / 2 ^ t : Nat) : Int) / 2 = ((x / 2 ^ (t + 1) : Nat) : Int) := by
  rw [Nat.pow_succ, ← Nat.div_div_eq_div_mul]
  omega
end Loc
namespace Loc
theorem get_of {α : Type} {l : List α} {i : Nat} (h : i < l.length) : ∃ x, l[i]? = some x := ⟨l[i], List.getElem?_eq_getElem h⟩
end Loc
namespace Loc
theorem take_more {α : Type} {l : List α} {i : Nat} {x : α} (h : l[i]? = some x) : l.take (i + 1) = l.take i ++ [x] := by
  rw [List.take_add_one, h]
  rfl
theorem int_congr {a b : Int} (h : a = b) : L2.V.int a = L2.V.int b := by rw [h]
end Loc
namespace Loc
open PySem PySem.Spec PyProof.Rows L2
/-- a value that is one of those that S tells -/
theorem anyE {te : TE} {σ : L2.St} {H : Hp} {Q : VK} (S : VK) (key : ∀ v H', S v H' → Q v H') (h : ∀ R : VK, (∀ v H', S v H' → R v H') → te σ H R) : te σ H Q := h Q key
theorem anyT {t : TT} {σ : L2.St} {H : Hp} {Q : Bool → Hp → Prop} (S : Bool → Hp → Prop) (key : ∀ b H', S b H' → Q b H') (h : ∀ R : Bool → Hp → Prop, (∀ b H', S b H' → R b H') → t σ H R) : t σ H Q := h Q key
theorem joinS {b : Bool} {t u : TS} {D : Ends} {σ : L2.St} {H : Hp} (S : L2.St → Hp → Prop) (key : ∀ σ' H', S σ' H' → D.nx σ' H')
    (h1 : b = true → ∀ N : L2.St → Hp → Prop, (∀ σ' H', S σ' H' → N σ' H') → t { D with nx := N } σ H)
    (h2 : b = false → ∀ N : L2.St → Hp → Prop, (∀ σ' H', S σ' H' → N σ' H') → u { D with nx := N } σ H) : if b = true then t D σ H else u D σ H := by
  cases b
  · rw [if_neg Bool.false_ne_true]
    exact h2 rfl D.nx key
  · rw [if_pos rfl]
    exact h1 rfl D.nx key
theorem But.free {p q : Addr} {H H' : Hp} {o : HO} (e : But p H H') (hp : H' p = some o) (h : H' q = none) : H q = none := by
  cases z : H q with
  | none => rfl
  | some x =>
    have n : q ≠ p := fun k => by rw [k, hp] at h; cases h
    rw [e q x n z] at h
    cases h
theorem Pot.ex {H : Hp} {p : Addr} {c : Nat} (h : Pot H p c) : ∃ o, H p = some o := let ⟨o, e, _⟩ := h; ⟨o, e⟩
theorem But.freeP {p q : Addr} {H H' : Hp} {c : Nat} (e : But p H H') (hp : Pot H' p c) (h : H' q = none) : H q = none := let ⟨_, k⟩ := hp.ex; e.free k h
theorem Pot.ne {H : Hp} {p q : Addr} {c : Nat} (hp : Pot H p c) (h : H q = none) : q ≠ p := fun z => by
  obtain ⟨o, e⟩ := hp.ex
  rw [z, e] at h
  cases h
/-! lists of ints as data -/
theorem canLay_ints : ∀ ns : List Int, PyData.canLayAll0 (ns.map PyData.int) = true
  | [] => rfl
  | n :: r => by
    show (PyData.canLay0 (.int n) && PyData.canLayAll0 (r.map PyData.int)) = true
    rw [canLay_ints r]
    rfl
theorem depth_ints : ∀ ns : List Int, PyData.depthAll (ns.map PyData.int) ≤ 1
  | [] => by simp [PyData.depthAll]
  | n :: r => by
    have := depth_ints r
    simp only [List.map_cons, PyData.depthAll, PyData.depth]
    omega
theorem shaped_ints (ns : List Int) : SeqAt.shaped (.list (ns.map PyData.int)) = true ∧ SeqAt.shaped (.tuple (ns.map PyData.int)) = true := by
  have d := depth_ints ns
  constructor
  · unfold SeqAt.shaped
    rw [Bool.and_eq_true]
    exact ⟨by simpa [PyData.canLay0] using canLay_ints ns, decide_eq_true (by simp only [PyData.depth]; omega)⟩
  · unfold SeqAt.shaped
    rw [Bool.and_eq_true]
    exact ⟨by simpa [PyData.canLay0] using canLay_ints ns, decide_eq_true (by simp only [PyData.depth]; omega)⟩
/-- xs == [], xs of ints -/
theorem eqv_empty (ns : List Int) : PyData.eqv (.list (ns.map PyData.int)) (.list []) = ns.isEmpty := by
  cases ns <;> simp [PyData.eqv, PyData.eqvAll]
theorem eqv_emptyT (ns : List Int) : PyData.eqv (.tuple (ns.map PyData.int)) (.tuple []) = ns.isEmpty := by
  cases ns <;> simp [PyData.eqv, PyData.eqvAll]
end Loc
namespace Loc
theorem pow_of {d : Int} {n : Nat} (h0 : 0 ≤ d) (h : d ≤ n) : ∃ m : Nat, (1 : Int) * 2 ^ d.toNat = (m : Int) ∧ 0 < m ∧ m ≤ 2 ^ n := by
  refine ⟨2 ^ d.toNat, ?_, Nat.two_pow_pos _, Nat.pow_le_pow_right (by decide) (by omega)⟩
  rw [Int.one_mul, PySem.W.kbt_cast]
end Loc
namespace Loc
open PySem PySem.Spec PyProof.Rows L2
theorem cb1_any {r : List V → Hp → VK → Prop} {te : TE} {σ : L2.St} {H : Hp} {Q : VK} (S : VK) (key : ∀ v H', S v H' → r [v] H' Q) (h : ∀ R : VK, (∀ v H', S v H' → R v H') → te σ H R) : tCB r (tCons te tNil) σ H Q := h _ key
theorem cons_any {te : TE} {tr : TA} {σ : L2.St} {H : Hp} {Q : List V → Hp → Prop} (S : VK) (key : ∀ v H', S v H' → tr σ H' fun vs H2 => Q (v :: vs) H2) (h : ∀ R : VK, (∀ v H', S v H' → R v H') → te σ H R) : tCons te tr σ H Q := h _ key
theorem if_any {T : TT} {ta tb : TE} {σ : L2.St} {H : Hp} {Q : VK} (S : Bool → Hp → Prop) (key : ∀ b H', S b H' → if b = true then ta σ H' Q else tb σ H' Q) (h : ∀ R : Bool → Hp → Prop, (∀ b H', S b H' → R b H') → T σ H R) : tIf T ta tb σ H Q := h _ key
theorem ifs_any {T : TT} {t u : TS} {D : Ends} {σ : L2.St} {H : Hp} (S : Bool → Hp → Prop) (key : ∀ b H', S b H' → if b = true then t D σ H' else u D σ H') (h : ∀ R : Bool → Hp → Prop, (∀ b H', S b H' → R b H') → T σ H R) : tIfS T t u D σ H := h _ key
end Loc
namespace Loc
open PySem PySem.Spec PyProof.Rows L2
theorem cb1_var {r : List V → Hp → VK → Prop} {i : Nat} {σ : L2.St} {H : Hp} {Q : VK} (v : V) (h : σ[i]? = some (some v)) (k : r [v] H Q) : tCB r (tCons (tVar i) tNil) σ H Q := ⟨v, h, k⟩
end Loc

set_option Elab.async false
set_option linter.all false
set_option maxRecDepth 100000
namespace Loc
open PySem PySem.Spec PyProof.Rows L2 RZ
/-! ### repr of a tuple of ints -/
theorem shown_len {n : Nat} (h : n < 10 ^ 70) : (PyData.shown (.int (n : Int))).length ≤ 70 := by
  rw [PyData.shown_int]
  refine toString_length_le (Int.natCast_nonneg _) (by decide) ?_
  have := Int.ofNat_lt.mpr h
  exact Int.lt_of_lt_of_le this (by decide +kernel)
theorem shown_sum : ∀ ns : List Nat, (∀ n ∈ ns, n < 10 ^ 70) → ((PyData.shownAll ((ns.map fun n : Nat => (n : Int)).map PyData.int)).map (·.length)).sum ≤ 70 * ns.length
  | [], _ => by simp [PyData.shownAll]
  | n :: r, h => by
    have h1 := shown_len (h n List.mem_cons_self)
    have h2 := shown_sum r fun m hm => h m (List.mem_cons_of_mem _ hm)
    simp only [List.map_cons, PyData.shownAll, List.sum_cons, List.length_cons]
    omega
theorem log_small {n : Nat} (h : n < 10 ^ 70) : ((n : Int)).natAbs.log2 < 1920 := by
  rw [Int.natAbs_natCast]
  by_cases z : n = 0
  · subst z
    decide
  · exact (Nat.log2_lt z).mpr (Nat.lt_trans h (by decide +kernel))
theorem noDict_ints : ∀ ns : List Int, PyData.hasDictAll (ns.map PyData.int) = false
  | [] => by simp [PyData.hasDictAll]
  | n :: r => by simp [PyData.hasDictAll, PyData.hasDict, noDict_ints r]
/-- what repr asks of a tuple of small numbers -/
theorem rep_ints {K : PySem.W.Frag} {H : Hp} {a : Addr} {ns : List Nat} {Q : VK} (hS : SqT K H a (ns.map fun n : Nat => V.int (n : Int))) (h : ∀ n ∈ ns, n < 10 ^ 70) (hl : ns.length ≤ 100000)
    (q : Q (.str (PyData.shown (.tuple ((ns.map fun n : Nat => (n : Int)).map PyData.int)))) H) : rRep K [.ref a] H Q := by
  have dp := depth_ints (ns.map fun n : Nat => (n : Int))
  have sm := shown_sum ns h
  have e : (ns.map fun n : Nat => V.int (n : Int)) = (ns.map fun n : Nat => (n : Int)).map V.int := by
    rw [List.map_map]
    rfl
  rw [e] at hS
  refine ⟨a, _, rfl, .tup hS (DpAll.ints _), ?_, ?_, ?_, ?_, q⟩
  · show PyData.showableAll _ = true
    refine PyData.showableAll_ints _ fun n hn => ?_
    obtain ⟨m, hm, rfl⟩ := List.mem_map.mp hn
    exact log_small (h m hm)
  · show PyData.hasDictAll _ = false
    exact noDict_ints _
  · simp only [PyData.depth]
    omega
  · show (tupleText _).length ≤ sizeLine
    have t := tupleText_len_le (PyData.shownAll ((ns.map fun n : Nat => (n : Int)).map PyData.int))
    rw [PyData.shownAll_length, List.length_map, List.length_map] at t
    rw [sizeLine_eq]
    omega
/-! ### [.. for x, y in zip(t, u)], t and u tuples -/
theorem lc_zipT {K : PySem.W.Frag} {a b : Addr} {xs ys : List V} {g : TG} {tt : TT} {te : TE} {vs : List Nat} {σ : L2.St} {H1 : Hp} {D : Addr} {Qd : Hp → Prop} (Pv : Nat → Hp → Prop)
    (h0 : Pv 0 (upd H1 D (.lst []))) (hl : ∀ i H, Pv i H → SqT K H a xs ∧ SqT K H b ys)
    (hs : ∀ i x y T H, xs[i]? = some x → ys[i]? = some y → Pv i H → H T = none → g (.ref T) (wipe σ vs) (upd H T (.tup [x, y])) fun σ2 H2 => wipe σ2 vs = wipe σ vs ∧ tt σ2 H2 fun k H3 =>
      if k = true then te σ2 H3 fun z H4 => ∃ acc, H4 D = some (.lst acc) ∧ acc.length < sizeLine ∧ Pv (i + 1) (upd H4 D (.lst (acc ++ [z]))) else Pv (i + 1) H3)
    (hd : ∀ i H, Pv i H → (xs.length ≤ i ∨ ys.length ≤ i) → Qd H) :
    ∃ W : Nat → Nat → Hp → Prop, (∃ m, W 0 m (upd H1 D (.lst []))) ∧ ∀ i m H, W i m H →
      ((ItzT K a b).stop i H ∧ Qd H) ∨ ((ItzT K a b).go i H ∧ ∃ Nx : Hp → Prop, (∀ H', Nx H' → ∃ m', m' < m ∧ W (i + 1) m' H') ∧ ∀ x H', (ItzT K a b).yld i H x H' → g x (wipe σ vs) H' fun σ2 H2 => wipe σ2 vs = wipe σ vs ∧ tt σ2 H2 fun k H3 =>
        if k = true then te σ2 H3 fun y H4 => ∃ acc, H4 D = some (.lst acc) ∧ acc.length < sizeLine ∧ Nx (upd H4 D (.lst (acc ++ [y]))) else Nx H3) := by
  refine ⟨fun i m H => m = xs.length - i ∧ Pv i H, ⟨_, rfl, h0⟩, ?_⟩
  rintro i m H ⟨rfl, p⟩
  obtain ⟨k1, k2⟩ := hl i H p
  by_cases c : i < xs.length ∧ i < ys.length
  · obtain ⟨x, gx⟩ := get_of c.1
    obtain ⟨y, gy⟩ := get_of c.2
    refine .inr ⟨⟨xs, ys, x, y, k1, k2, gx, gy⟩, Pv (i + 1), fun H' p' => ⟨xs.length - (i + 1), by omega, rfl, p'⟩, fun z H' hy => ?_⟩
    obtain ⟨T, x', y', rfl, hT, rfl, f1, f2⟩ := hy
    have ex : x' = x := Option.some.inj ((f1 _ k1).symm.trans gx)
    have ey : y' = y := Option.some.inj ((f2 _ k2).symm.trans gy)
    subst ex
    subst ey
    exact hs i _ _ T H gx gy p hT
  · have c' : xs.length ≤ i ∨ ys.length ≤ i := by omega
    exact .inl ⟨⟨xs, ys, k1, k2, c'⟩, hd i H p c'⟩
end Loc

set_option Elab.async false
set_option linter.all false
set_option maxRecDepth 100000
namespace Loc
open PySem PySem.Spec PyProof.Rows L2
/-! ### nodes -/
inductive Nd where
  | el (n : Nat)
  | run (b : Nd) (c : Nat)
  | blk (ps : List Nd)
mutual
def dat : Nd → PyData
  | .el n => .int n
  | .run b c => .tuple [.str "run", dat b, .int c]
  | .blk ps => .tuple [.str "block", .tuple (datAll ps)]
def datAll : List Nd → List PyData
  | [] => []
  | n :: r => dat n :: datAll r
end
def Nd.isRun : Nd → Bool
  | .run _ _ => true
  | _ => false
def Nd.isBlk : Nd → Bool
  | .blk _ => true
  | _ => false
def Nd.base : Nd → Nd
  | .run b _ => b
  | n => n
/-- neighbours with unlike bases -/
def Unb : List Nd → Prop
  | a :: b :: r => a.base ≠ b.base ∧ Unb (b :: r)
  | _ => True
mutual
/-- a node of this level -/
def Ok : Nd → Nat → Prop
  | .el n, l => l = 0 ∧ n ≤ 10 ^ 9
  | .run b c, l => 2 ≤ c ∧ c ≤ 10 ^ 60 ∧ b.isRun = false ∧ Ok b l
  | .blk ps, l => 1 ≤ l ∧ 2 ≤ ps.length ∧ ps.length ≤ 3 ∧ OkAll ps (l - 1) ∧ Unb ps
def OkAll : List Nd → Nat → Prop
  | [], _ => True
  | n :: r, l => Ok n l ∧ OkAll r l
end
theorem OkAll.mem : ∀ {ps : List Nd} {l : Nat}, OkAll ps l → ∀ n ∈ ps, Ok n l
  | [], _, _, n, h => nomatch h
  | a :: r, l, h, n, hn => by
    unfold OkAll at h
    rcases List.mem_cons.mp hn with rfl | hn
    · exact h.1
    · exact OkAll.mem h.2 n hn
theorem OkAll.of : ∀ {ps : List Nd} {l : Nat}, (∀ n ∈ ps, Ok n l) → OkAll ps l
  | [], _, _ => by unfold OkAll; trivial
  | a :: r, l, h => by
    unfold OkAll
    exact ⟨h a List.mem_cons_self, OkAll.of fun n hn => h n (List.mem_cons_of_mem _ hn)⟩
theorem datAll_map : ∀ ps : List Nd, datAll ps = ps.map dat
  | [] => by unfold datAll; rfl
  | n :: r => by
    unfold datAll
    rw [datAll_map r]
    rfl
theorem datAll_length (ps : List Nd) : (datAll ps).length = ps.length := by rw [datAll_map, List.length_map]
theorem unlike_sorts : (Str.ofString "run" == Str.ofString "block") = false ∧ (Str.ofString "block" == Str.ofString "run") = false := by
  constructor <;> decide +kernel
theorem eqv_rb (x y z : PyData) : PyData.eqv (.tuple [.str "run", x, y]) (.tuple [.str "block", z]) = false := by
  simp only [PyData.eqv, PyData.eqvAll, unlike_sorts.1, Bool.false_and]
theorem eqv_br (x y z : PyData) : PyData.eqv (.tuple [.str "block", z]) (.tuple [.str "run", x, y]) = false := by
  simp only [PyData.eqv, PyData.eqvAll, unlike_sorts.2, Bool.false_and]
mutual
theorem eqv_dat : ∀ a b : Nd, PyData.eqv (dat a) (dat b) = true ↔ a = b
  | .el n, .el m => by
    simp only [dat, PyData.eqv, beq_iff_eq, Nd.el.injEq]
    omega
  | .el _, .run _ _ => by simp [dat, PyData.eqv]
  | .el _, .blk _ => by simp [dat, PyData.eqv]
  | .run _ _, .el _ => by simp [dat, PyData.eqv]
  | .blk _, .el _ => by simp [dat, PyData.eqv]
  | .run a c, .run b d => by
    have ih := eqv_dat a b
    simp only [dat, PyData.eqv, PyData.eqvAll, beq_self_eq_true, Bool.true_and, Bool.and_true, Bool.and_eq_true, beq_iff_eq, Nd.run.injEq, ih]
    constructor
    · rintro ⟨h1, h2⟩
      exact ⟨h1, by omega⟩
    · rintro ⟨h1, h2⟩
      exact ⟨h1, by omega⟩
  | .run _ _, .blk _ => by simp [dat, eqv_rb]
  | .blk _, .run _ _ => by simp [dat, eqv_br]
  | .blk ps, .blk qs => by
    have ih := eqv_datAll ps qs
    simp only [dat, PyData.eqv, PyData.eqvAll, beq_self_eq_true, Bool.true_and, Bool.and_true, Nd.blk.injEq, ih]
theorem eqv_datAll : ∀ ps qs : List Nd, PyData.eqvAll (datAll ps) (datAll qs) = true ↔ ps = qs
  | [], [] => by simp [datAll, PyData.eqvAll]
  | [], _ :: _ => by simp [datAll, PyData.eqvAll]
  | _ :: _, [] => by simp [datAll, PyData.eqvAll]
  | a :: r, b :: q => by
    have h1 := eqv_dat a b
    have h2 := eqv_datAll r q
    simp only [datAll, PyData.eqvAll, Bool.and_eq_true, h1, h2, List.cons.injEq]
end
theorem eqv_no {a b : Nd} (h : a ≠ b) : PyData.eqv (dat a) (dat b) = false := by
  cases e : PyData.eqv (dat a) (dat b) with
  | false => rfl
  | true => exact absurd ((eqv_dat a b).mp e) h
theorem eqv_yes {a b : Nd} (h : a = b) : PyData.eqv (dat a) (dat b) = true := (eqv_dat a b).mpr h
theorem str_run_ok : PyData.canLay0 (.str "run") = true ∧ PyData.canLay0 (.str "block") = true := by
  constructor <;> decide +kernel
mutual
theorem canLay_dat : ∀ a : Nd, PyData.canLay0 (dat a) = true
  | .el n => by simp [dat, PyData.canLay0]
  | .run b c => by
    have h := canLay_dat b
    simp only [dat, PyData.canLay0, PyData.canLayAll0, h, str_run_ok.1, Bool.and_true]
    exact str_run_ok.1
  | .blk ps => by
    have h := canLay_datAll ps
    simp only [dat, PyData.canLay0, PyData.canLayAll0, h, Bool.and_true]
    exact str_run_ok.2
theorem canLay_datAll : ∀ ps : List Nd, PyData.canLayAll0 (datAll ps) = true
  | [] => by simp [datAll, PyData.canLayAll0]
  | a :: r => by
    have h1 := canLay_dat a
    have h2 := canLay_datAll r
    simp only [datAll, PyData.canLayAll0, h1, h2, Bool.and_true]
end
mutual
theorem depth_dat : ∀ (a : Nd) (l : Nat), Ok a l → (dat a).depth ≤ 3 * l + (if a.isRun then 1 else 0)
  | .el n, l, h => by simp [dat, PyData.depth]
  | .run b c, l, h => by
    unfold Ok at h
    have ih := depth_dat b l h.2.2.2
    rw [h.2.2.1] at ih
    simp only [dat, PyData.depth, PyData.depthAll, Nd.isRun, if_true]
    simp at ih
    omega
  | .blk ps, l, h => by
    unfold Ok at h
    have ih := depth_datAll ps (l - 1) h.2.2.2.1
    simp only [dat, PyData.depth, PyData.depthAll, Nd.isRun]
    simp
    omega
theorem depth_datAll : ∀ (ps : List Nd) (l : Nat), OkAll ps l → PyData.depthAll (datAll ps) ≤ 3 * l + 1
  | [], l, _ => by simp [datAll, PyData.depthAll]
  | a :: r, l, h => by
    unfold OkAll at h
    have h1 := depth_dat a l h.1
    have h2 := depth_datAll r l h.2
    simp only [datAll, PyData.depthAll]
    split at h1 <;> omega
end
theorem depth_le {a : Nd} {l : Nat} (h : Ok a l) : (dat a).depth ≤ 3 * l + 1 := by
  have := depth_dat a l h
  split at this <;> omega
theorem shaped_dat {a : Nd} {l : Nat} (h : Ok a l) (hl : l ≤ 20) : SeqAt.shaped (dat a) = true := by
  have d := depth_le h
  unfold SeqAt.shaped
  rw [Bool.and_eq_true]
  exact ⟨canLay_dat a, decide_eq_true (by omega)⟩
theorem shaped_all {ps : List Nd} {l : Nat} (h : OkAll ps l) (hl : l ≤ 20) : SeqAt.shaped (.list (datAll ps)) = true ∧ SeqAt.shaped (.tuple (datAll ps)) = true := by
  have d := depth_datAll ps l h
  unfold SeqAt.shaped
  simp only [Bool.and_eq_true]
  exact ⟨⟨by simpa [PyData.canLay0] using canLay_datAll ps, decide_eq_true (by simp only [PyData.depth]; omega)⟩, by simpa [PyData.canLay0] using canLay_datAll ps, decide_eq_true (by simp only [PyData.depth]; omega)⟩
/-! ### nodes that a heap bears -/
abbrev NdV (K : PySem.W.Frag) (H : Hp) (v : V) (a : Nd) : Prop := Dp K H v (dat a)
abbrev NdsV (K : PySem.W.Frag) (H : Hp) (vs : List V) (ps : List Nd) : Prop := DpAll K H vs (datAll ps)
section
variable {K : PySem.W.Frag} {H H' : Hp}
theorem NdV.el {v : V} {n : Nat} (h : NdV K H v (.el n)) : v = .int n := by
  unfold NdV dat at h
  cases h
  rfl
theorem NdV.run {v : V} {b : Nd} {c : Nat} (h : NdV K H v (.run b c)) : ∃ a v2, v = .ref a ∧ SqT K H a [.str "run", v2, .int c] ∧ NdV K H v2 b := by
  unfold NdV dat at h
  cases h with
  | tup h1 h2 =>
    cases h2 with
    | cons k1 h2 =>
      cases h2 with
      | cons k2 h2 =>
        cases h2 with
        | cons k3 h2 =>
          cases h2
          cases k1
          cases k3
          exact ⟨_, _, rfl, h1, k2⟩
theorem NdV.blk {v : V} {ps : List Nd} (h : NdV K H v (.blk ps)) : ∃ a b vs, v = .ref a ∧ SqT K H a [.str "block", .ref b] ∧ SqT K H b vs ∧ NdsV K H vs ps := by
  unfold NdV dat at h
  cases h with
  | tup h1 h2 =>
    cases h2 with
    | cons k1 h2 =>
      cases h2 with
      | cons k2 h2 =>
        cases h2
        cases k1
        cases k2 with
        | tup k3 k4 => exact ⟨_, _, _, rfl, h1, k3, k4⟩
theorem NdV.ofEl (n : Nat) : NdV K H (.int n) (.el n) := by
  unfold NdV dat
  exact .int _
theorem NdV.ofRun {a : Addr} {v2 : V} {b : Nd} {c : Nat} (h : SqT K H a [.str "run", v2, .int c]) (k : NdV K H v2 b) : NdV K H (.ref a) (.run b c) := by
  unfold NdV dat
  exact .tup h (.cons (.str _) (.cons k (.cons (.int _) .nil)))
theorem NdV.ofBlk {a b : Addr} {vs : List V} {ps : List Nd} (h : SqT K H a [.str "block", .ref b]) (k : SqT K H b vs) (q : NdsV K H vs ps) : NdV K H (.ref a) (.blk ps) := by
  unfold NdV dat
  exact .tup h (.cons (.str _) (.cons (.tup k q) .nil))
theorem NdsV.nil : NdsV K H [] [] := by
  unfold NdsV datAll
  exact .nil
theorem NdsV.cons {v : V} {vs : List V} {a : Nd} {ps : List Nd} (h : NdV K H v a) (k : NdsV K H vs ps) : NdsV K H (v :: vs) (a :: ps) := by
  unfold NdsV datAll
  exact .cons h k
theorem NdsV.inv {vs : List V} {a : Nd} {ps : List Nd} (h : NdsV K H vs (a :: ps)) : ∃ v r, vs = v :: r ∧ NdV K H v a ∧ NdsV K H r ps := by
  unfold NdsV datAll at h
  cases h with
  | cons h1 h2 => exact ⟨_, _, rfl, h1, h2⟩
theorem NdsV.inv0 {vs : List V} (h : NdsV K H vs []) : vs = [] := by
  unfold NdsV datAll at h
  cases h
  rfl
theorem NdsV.len : ∀ {ps : List Nd} {vs : List V}, NdsV K H vs ps → vs.length = ps.length
  | [], vs, h => by rw [h.inv0]; rfl
  | a :: r, vs, h => by
    obtain ⟨v, q, rfl, _, k⟩ := h.inv
    rw [List.length_cons, List.length_cons, NdsV.len k]
theorem NdsV.get : ∀ {ps : List Nd} {vs : List V} {i : Nat} {v : V}, NdsV K H vs ps → vs[i]? = some v → ∃ a, ps[i]? = some a ∧ NdV K H v a
  | [], vs, i, v, h, e => by rw [h.inv0] at e; simp at e
  | a :: r, vs, i, v, h, e => by
    obtain ⟨u, q, rfl, k1, k⟩ := h.inv
    cases i with
    | zero =>
      simp at e
      subst e
      exact ⟨a, rfl, k1⟩
    | succ i =>
      obtain ⟨b, h1, h2⟩ := NdsV.get (i := i) k (by simpa using e)
      exact ⟨b, by simpa using h1, h2⟩
theorem NdsV.at {ps : List Nd} {vs : List V} {i : Nat} {a : Nd} (h : NdsV K H vs ps) (e : ps[i]? = some a) : ∃ v, vs[i]? = some v ∧ NdV K H v a := by
  have hi := (List.getElem?_eq_some_iff.mp e).1
  obtain ⟨v, hv⟩ := get_of (l := vs) (i := i) (by rw [h.len]; exact hi)
  obtain ⟨b, h1, h2⟩ := h.get hv
  rw [e] at h1
  cases h1
  exact ⟨v, hv, h2⟩
theorem NdsV.app : ∀ {ps qs : List Nd} {vs us : List V}, NdsV K H vs ps → NdsV K H us qs → NdsV K H (vs ++ us) (ps ++ qs)
  | [], qs, vs, us, h, k => by rw [h.inv0]; exact k
  | a :: r, qs, vs, us, h, k => by
    obtain ⟨v, q, rfl, k1, k2⟩ := h.inv
    exact NdsV.cons k1 (NdsV.app k2 k)
theorem NdsV.one {v : V} {a : Nd} (h : NdV K H v a) : NdsV K H [v] [a] := NdsV.cons h NdsV.nil
theorem NdsV.last {ps : List Nd} {vs : List V} {z : Nd} (h : NdsV K H vs (ps ++ [z])) : ∃ u, atI vs (-1) = some u ∧ NdV K H u z := by
  have hl := h.len
  rw [List.length_append] at hl
  simp at hl
  rcases List.eq_nil_or_concat vs with rfl | ⟨init, u, rfl⟩
  · simp at hl
  · rw [List.concat_eq_append] at *
    refine ⟨u, atI_last _ _, ?_⟩
    have hi : init.length = ps.length := by simpa using hl
    obtain ⟨a, h1, h2⟩ := h.get (i := init.length) (v := u) (by rw [List.getElem?_append_right (Nat.le_refl _)]; simp)
    rw [hi, List.getElem?_append_right (Nat.le_refl _)] at h1
    have : a = z := by simpa using h1.symm
    rw [← this]
    exact h2
/-- node data stand while tuples stand -/
def Tups (K : PySem.W.Frag) (H H' : Hp) : Prop := ∀ a xs, SqT K H a xs → SqT K H' a xs
theorem Tups.of (e : Same H H') : Tups K H H' := fun _ _ h => sameT e h
theorem Tups.trans {H2 : Hp} (e : Tups K H H') (k : Tups K H' H2) : Tups K H H2 := fun a xs h => k a xs (e a xs h)
theorem Tups.refl : Tups K H H := fun _ _ h => h
theorem But.tups {p : Addr} {ys : List V} (e : But p H H') (h : H p = some (.lst ys)) : Tups K H H' := fun _ _ k => e.sqt h k
theorem But.tupsP {p : Addr} {c : Nat} (e : But p H H') (h : Pot H p c) : Tups K H H' := let ⟨_, k⟩ := h.ls; e.tups k
mutual
theorem NdV.up (e : Tups K H H') : ∀ {a : Nd} {v : V}, NdV K H v a → NdV K H' v a
  | .el n, v, h => by rw [h.el]; exact .ofEl n
  | .run b c, v, h => by
    obtain ⟨a, v2, rfl, h1, h2⟩ := h.run
    exact .ofRun (e _ _ h1) (NdV.up e h2)
  | .blk ps, v, h => by
    obtain ⟨a, b, vs, rfl, h1, h2, h3⟩ := h.blk
    exact .ofBlk (e _ _ h1) (e _ _ h2) (NdsV.up e h3)
theorem NdsV.up (e : Tups K H H') : ∀ {ps : List Nd} {vs : List V}, NdsV K H vs ps → NdsV K H' vs ps
  | [], vs, h => by rw [h.inv0]; exact .nil
  | a :: r, vs, h => by
    obtain ⟨v, q, rfl, k1, k2⟩ := h.inv
    exact NdsV.cons (NdV.up e k1) (NdsV.up e k2)
end
theorem SqT.ty {a : Addr} {xs : List V} (h : SqT K H a xs) : TyX K H (.ref a) (.type "tuple") := by
  rcases h with (h | ⟨o, h⟩) | ⟨o, its, n, h1, h2, _⟩
  · exact .base (.tup h)
  · exact .fTuple h
  · exact .kTuple h1 h2
end
end Loc

set_option Elab.async false
set_option linter.all false
set_option maxRecDepth 100000
namespace Loc
open PySem PySem.Spec PyProof.Rows L2
def Smalls (B : Nat) (xs : List V) : Prop := ∀ x ∈ xs, ∃ n : Nat, x = .int n ∧ n ≤ B
theorem Smalls.nil {B : Nat} : Smalls B [] := fun x h => nomatch h
theorem Smalls.cons {B n : Nat} {x : V} {xs : List V} (e : x = .int n) (h : n ≤ B) (t : Smalls B xs) : Smalls B (x :: xs) := fun y hy => by
  rcases List.mem_cons.mp hy with rfl | hy
  · exact ⟨n, e, h⟩
  · exact t y hy
theorem Smalls.at {B : Nat} {xs : List V} {j : Nat} {x : V} (s : Smalls B xs) (h : xs[j]? = some x) : ∃ n : Nat, x = .int n ∧ n ≤ B := s x (List.mem_of_getElem? h)
/-! the two nodes of a level that are at hand -/
def tw : Nat → Nd × Nd
  | 0 => (.el 5, .el 6)
  | l + 1 => (.blk [(tw l).1, (tw l).2], .blk [(tw l).2, (tw l).1])
theorem tw_ok : ∀ l : Nat, Ok (tw l).1 l ∧ Ok (tw l).2 l ∧ (tw l).1 ≠ (tw l).2 ∧ (tw l).1.isRun = false ∧ (tw l).2.isRun = false
  | 0 => by
    refine ⟨?_, ?_, ?_, rfl, rfl⟩
    · unfold tw Ok; exact ⟨rfl, by decide⟩
    · unfold tw Ok; exact ⟨rfl, by decide⟩
    · unfold tw; intro h; injection h with h; exact absurd h (by decide)
  | l + 1 => by
    obtain ⟨h1, h2, h3, h4, h5⟩ := tw_ok l
    have b1 : (tw l).1.base = (tw l).1 := by
      cases e : (tw l).1 with
      | run b c => rw [e] at h4; cases h4
      | el n => rfl
      | blk ps => rfl
    have b2 : (tw l).2.base = (tw l).2 := by
      cases e : (tw l).2 with
      | run b c => rw [e] at h5; cases h5
      | el n => rfl
      | blk ps => rfl
    refine ⟨?_, ?_, ?_, rfl, rfl⟩
    · show Ok (.blk [(tw l).1, (tw l).2]) (l + 1)
      unfold Ok
      exact ⟨by omega, Nat.le_refl 2, (show 2 ≤ 3 from by decide), OkAll.of (fun n hn => by
        rcases List.mem_cons.mp hn with rfl | hn
        · exact h1
        · rw [List.mem_singleton.mp hn]; exact h2), ⟨by rw [b1, b2]; exact h3, trivial⟩⟩
    · show Ok (.blk [(tw l).2, (tw l).1]) (l + 1)
      unfold Ok
      exact ⟨by omega, Nat.le_refl 2, (show 2 ≤ 3 from by decide), OkAll.of (fun n hn => by
        rcases List.mem_cons.mp hn with rfl | hn
        · exact h2
        · rw [List.mem_singleton.mp hn]; exact h1), ⟨by rw [b1, b2]; exact h3.symm, trivial⟩⟩
    · show Nd.blk [(tw l).1, (tw l).2] ≠ Nd.blk [(tw l).2, (tw l).1]
      intro h
      injection h with h
      injection h with h
      exact h3 h
theorem base_of_no {n : Nd} (h : n.isRun = false) : n.base = n := by
  cases n with
  | run b c => cases h
  | el n => rfl
  | blk ps => rfl
theorem Ok.base {n : Nd} {l : Nat} (h : Ok n l) : Ok n.base l ∧ n.base.isRun = false := by
  cases n with
  | run b c =>
    unfold Ok at h
    exact ⟨h.2.2.2, h.2.2.1⟩
  | el n => exact ⟨h, rfl⟩
  | blk ps => exact ⟨h, rfl⟩
theorem unb_app : ∀ {ns : List Nd} {m : Nd}, Unb ns → (∀ x, ns.getLast? = some x → x.base ≠ m.base) → Unb (ns ++ [m])
  | [], _, _, _ => trivial
  | [a], m, _, h => ⟨h a rfl, trivial⟩
  | a :: b :: r, m, u, h => ⟨u.1, unb_app (ns := b :: r) u.2 fun x e => h x (by rw [List.getLast?_cons_cons]; exact e)⟩
/-- draws for one node of a level -/
def cost : Nat → Nat
  | 0 => 8
  | l + 1 => 4 * cost l
theorem cost_pos : ∀ l : Nat, 8 ≤ cost l
  | 0 => Nat.le_refl _
  | l + 1 => by
    have := cost_pos l
    unfold cost
    omega
theorem eqv_emptyN (ns : List Nd) : PyData.eqv (.list (datAll ns)) (.list []) = ns.isEmpty := by
  cases ns <;> simp [PyData.eqv, PyData.eqvAll, datAll]
theorem shaped_nil : SeqAt.shaped (.list []) = true := (shaped_ints []).1

def spGround (K : PySem.W.Frag) : Sp := fun vs H Q _ => ∃ v n, vs = [v] ∧ NdV K H v n ∧ ∀ v', NdV K H v' n.base → Q v' H
def spLeaf (K : PySem.W.Frag) : Sp := fun vs H Q _ => ∃ p c, vs = [.ref p] ∧ Pot H p c ∧ c < 900000 ∧ ∀ v n H', But p H H' → Pot H' p (c + 6) → NdV K H' v n → Ok n 0 → Q v H'
def spTwins (K : PySem.W.Frag) (m : Nat) : Sp := fun vs H Q _ => ∃ (z : Int) (l : Nat), vs = [.int z] ∧ z = l ∧ l < m ∧
  ∀ H' a v1 v2, Same H H' → H' a = some (.tup [v1, v2]) → NdV K H' v1 (tw l).1 → NdV K H' v2 (tw l).2 → Q (.ref a) H'
def spUnlike (K : PySem.W.Frag) (m : Nat) : Sp := fun vs H Q _ => ∃ (v : V) (n : Nd) (l : Nat), vs = [v, .int l] ∧ l < m ∧ l ≤ 20 ∧ NdV K H v n ∧ Ok n l ∧
  ∀ H' v' n', Same H H' → NdV K H' v' n' → Ok n' l → n'.base ≠ n.base → Q v' H'
def spRow (K : PySem.W.Frag) (m : Nat) : Sp := fun vs H Q _ => ∃ (p : Addr) (z : Int) (l many c : Nat), vs = [.ref p, .int z, .int many] ∧ z = l ∧ l < m ∧ l ≤ 20 ∧ many ≤ 10 ∧ Pot H p c ∧ c + 20 * cost l < 900000 ∧
  ∀ H' a vs' ns, But p H H' → H a = none → H' a = some (.lst vs') → NdsV K H' vs' ns → OkAll ns l → Unb ns → ns.length = many → Pot H' p (c + many * cost l) → Q (.ref a) H'
def spBlock (K : PySem.W.Frag) (m : Nat) : Sp := fun vs H Q _ => ∃ (p : Addr) (l c : Nat), vs = [.ref p, .int l] ∧ 1 ≤ l ∧ l < m ∧ l ≤ 20 ∧ Pot H p c ∧ c + 10 * cost l < 900000 ∧
  ∀ H' v n, But p H H' → NdV K H' v n → Ok n l → Pot H' p (c + cost l) → Q v H'
end Loc

set_option Elab.async false
set_option linter.all false
set_option maxRecDepth 100000
namespace Loc
open PySem PySem.Spec PyProof.Rows L2
/-! ### repr of nodes -/
mutual
theorem noDict_dat : ∀ a : Nd, PyData.hasDict (dat a) = false
  | .el n => by simp [dat, PyData.hasDict]
  | .run b c => by simp [dat, PyData.hasDict, PyData.hasDictAll, noDict_dat b]
  | .blk ps => by simp [dat, PyData.hasDict, PyData.hasDictAll, noDict_datAll ps]
theorem noDict_datAll : ∀ ps : List Nd, PyData.hasDictAll (datAll ps) = false
  | [] => by simp [datAll, PyData.hasDictAll]
  | a :: r => by simp [datAll, PyData.hasDictAll, noDict_dat a, noDict_datAll r]
end
theorem log60 {c : Nat} (h : c ≤ 10 ^ 60) : ((c : Int)).natAbs.log2 < 1920 := log_small (Nat.lt_of_le_of_lt h (by decide +kernel))
mutual
theorem showable_dat : ∀ (a : Nd) (l : Nat), Ok a l → PyData.showable (dat a) = true
  | .el n, l, h => by
    unfold Ok at h
    have := log60 (c := n) (Nat.le_trans h.2 (by decide +kernel))
    simpa [dat, PyData.showable] using this
  | .run b c, l, h => by
    unfold Ok at h
    have h1 := log60 h.2.1
    have h2 := showable_dat b l h.2.2.2
    simp only [dat, PyData.showable, PyData.showableAll, h2, Bool.true_and, Bool.and_true]
    exact decide_eq_true h1
  | .blk ps, l, h => by
    unfold Ok at h
    have h2 := showable_datAll ps (l - 1) h.2.2.2.1
    simp only [dat, PyData.showable, PyData.showableAll, h2, Bool.true_and, Bool.and_true]
theorem showable_datAll : ∀ (ps : List Nd) (l : Nat), OkAll ps l → PyData.showableAll (datAll ps) = true
  | [], l, _ => by simp [datAll, PyData.showableAll]
  | a :: r, l, h => by
    unfold OkAll at h
    simp [datAll, PyData.showableAll, showable_dat a l h.1, showable_datAll r l h.2]
end
theorem repr_sorts : (reprText "run").length = 5 ∧ (reprText "block").length = 7 := by
  constructor <;> decide +kernel
theorem shown_nat {c k : Nat} (hk : 0 < k) (h : c < 10 ^ k) : (PyData.shown (.int (c : Int))).length ≤ k := by
  rw [PyData.shown_int]
  refine toString_length_le (Int.natCast_nonneg _) hk ?_
  have := Int.ofNat_lt.mpr h
  have e : ((10 ^ k : Nat) : Int) = (10 : Int) ^ k := by simp
  rw [← e]
  exact this
/-- signs of a node of a level -/
def wide : Nat → Nat
  | 0 => 100
  | l + 1 => 3 * wide l + 110
mutual
theorem shown_dat : ∀ (a : Nd) (l : Nat), Ok a l → (PyData.shown (dat a)).length + (if a.isRun then 0 else 80) ≤ wide l
  | .el n, l, h => by
    unfold Ok at h
    obtain ⟨rfl, hn⟩ := h
    have := shown_nat (c := n) (k := 10) (by decide) (Nat.lt_of_le_of_lt hn (by decide))
    simp only [dat, Nd.isRun, wide]
    simp
    omega
  | .run b c, l, h => by
    unfold Ok at h
    have ih := shown_dat b l h.2.2.2
    rw [h.2.2.1] at ih
    have h1 := shown_nat (c := c) (k := 61) (by decide) (Nat.lt_of_le_of_lt h.2.1 (by decide +kernel))
    have t := tupleText_len_le [PyData.shown (.str "run"), PyData.shown (dat b), PyData.shown (.int c)]
    have e : (PyData.shown (.str "run")).length = 5 := by rw [PyData.shown_str]; exact repr_sorts.1
    simp only [List.map_cons, List.map_nil, List.sum_cons, List.sum_nil, List.length_cons, List.length_nil, e] at t
    simp only [dat, Nd.isRun, PyData.shown, PyData.shownAll, if_true, Bool.false_eq_true, if_false, Nat.add_zero] at ih t h1 ⊢
    omega
  | .blk ps, l, h => by
    unfold Ok at h
    obtain ⟨hl, h2, h3, h4, _⟩ := h
    obtain ⟨j, rfl⟩ : ∃ j, l = j + 1 := ⟨l - 1, by omega⟩
    have ih := shown_datAll ps j h4
    have t := tupleText_len_le (PyData.shownAll (datAll ps))
    rw [PyData.shownAll_length, datAll_length] at t
    have t2 := tupleText_len_le [PyData.shown (.str "block"), PyData.shown (.tuple (datAll ps))]
    have e : (PyData.shown (.str "block")).length = 7 := by rw [PyData.shown_str]; exact repr_sorts.2
    simp only [List.map_cons, List.map_nil, List.sum_cons, List.sum_nil, List.length_cons, List.length_nil, e] at t2
    have m : ps.length * wide j ≤ 3 * wide j := Nat.mul_le_mul_right _ h3
    simp only [dat, Nd.isRun, PyData.shown, PyData.shownAll, wide] at t t2 ⊢
    simp
    omega
theorem shown_datAll : ∀ (ps : List Nd) (l : Nat), OkAll ps l → ((PyData.shownAll (datAll ps)).map (·.length)).sum ≤ ps.length * wide l
  | [], l, _ => by simp [datAll, PyData.shownAll]
  | a :: r, l, h => by
    unfold OkAll at h
    have h1 := shown_dat a l h.1
    have h2 := shown_datAll r l h.2
    simp only [datAll, PyData.shownAll, List.map_cons, List.sum_cons, List.length_cons]
    rw [Nat.add_mul]
    omega
end
/-- what repr asks of a tuple of nodes -/
theorem rep_nodes {K : PySem.W.Frag} {H : Hp} {a : Addr} {us : List V} {ns : List Nd} {l : Nat} {Q : VK} (hS : SqT K H a us) (hn : NdsV K H us ns) (ok : OkAll ns l) (hl : l ≤ 20) (hz : ns.length * wide l + 2 * ns.length + 3 ≤ sizeLine)
    (q : Q (.str (PyData.shown (.tuple (datAll ns)))) H) : rRep K [.ref a] H Q := by
  have d := depth_datAll ns l ok
  refine ⟨a, .tuple (datAll ns), rfl, .tup hS hn, ?_, ?_, ?_, ?_, q⟩
  · show PyData.showableAll _ = true
    exact showable_datAll ns l ok
  · show PyData.hasDictAll _ = false
    exact noDict_datAll ns
  · simp only [PyData.depth]
    omega
  · show (tupleText _).length ≤ sizeLine
    have t := tupleText_len_le (PyData.shownAll (datAll ns))
    have s := shown_datAll ns l ok
    rw [PyData.shownAll_length, datAll_length] at t
    omega
/-! ### making runs -/
noncomputable section
open Classical
def stepG (acc : List (Nd × Nat)) (n : Nd) : List (Nd × Nat) :=
  match acc.getLast? with
  | some (m, c) => if m = n then acc.dropLast ++ [(n, c + 1)] else acc ++ [(n, 1)]
  | none => acc ++ [(n, 1)]
def grp (ns : List Nd) : List (Nd × Nat) := ns.foldl stepG []
theorem grp_app (ns : List Nd) (n : Nd) : grp (ns ++ [n]) = stepG (grp ns) n := by
  unfold grp
  rw [List.foldl_append]
  rfl
theorem stepG_last (acc : List (Nd × Nat)) (n : Nd) : ∃ i c, stepG acc n = i ++ [(n, c)] := by
  unfold stepG
  split
  · split
    · exact ⟨_, _, rfl⟩
    · exact ⟨_, _, rfl⟩
  · exact ⟨_, _, rfl⟩
theorem stepG_eq {i : List (Nd × Nat)} {n : Nd} {c : Nat} : stepG (i ++ [(n, c)]) n = i ++ [(n, c + 1)] := by
  unfold stepG
  rw [List.getLast?_append]
  simp
theorem stepG_ne {acc : List (Nd × Nat)} {n : Nd} (h : ∀ m c, acc.getLast? = some (m, c) → m ≠ n) : stepG acc n = acc ++ [(n, 1)] := by
  unfold stepG
  split
  · rename_i m c e
    rw [if_neg (h m c e)]
  · rfl
/-- the last group's node is the last node -/
theorem grp_last (ns : List Nd) (n : Nd) (c : Nat) (h : (grp ns).getLast? = some (n, c)) : ns.getLast? = some n := by
  rcases List.eq_nil_or_concat ns with rfl | ⟨init, z, rfl⟩
  · unfold grp at h
    simp at h
  · rw [List.concat_eq_append] at *
    rw [grp_app] at h
    obtain ⟨i, d, e⟩ := stepG_last (grp init) z
    rw [e, List.getLast?_append] at h
    simp at h
    rw [List.getLast?_append]
    simp [h.1]
theorem grp_rep (ns : List Nd) (a : Nd) (h : ns.getLast? ≠ some a) : ∀ k : Nat, grp (ns ++ List.replicate (k + 1) a) = grp ns ++ [(a, k + 1)]
  | 0 => by
    show grp (ns ++ [a]) = _
    rw [grp_app]
    refine stepG_ne fun m c e z => h ?_
    rw [grp_last ns m c e, z]
  | k + 1 => by
    rw [List.replicate_succ', ← List.append_assoc, grp_app, grp_rep ns a h k, stepG_eq]
def mkRun (p : Nd × Nat) : Nd := if p.2 = 1 then p.1 else .run p.1 p.2
def mkRuns (ns : List Nd) : List Nd := (grp ns).map mkRun
theorem stepG_len (acc : List (Nd × Nat)) (n : Nd) : (stepG acc n).length ≤ acc.length + 1 := by
  unfold stepG
  split
  · split
    · rename_i e _
      have := List.length_pos_iff.mpr (show acc ≠ [] from fun z => by rw [z] at e; cases e)
      simp
      try omega
    · simp
  · simp
theorem grp_foot (ns : List Nd) : ∀ p ∈ grp ns, p.1 ∈ ns ∧ 1 ≤ p.2 ∧ p.2 ≤ ns.length := by
  rcases h : ns.reverse with _ | ⟨z, r⟩
  all_goals skip
  · have : ns = [] := by simpa using h
    subst this
    unfold grp
    intro p hp
    exact nomatch hp
  · have e : ns = r.reverse ++ [z] := by
      have := congrArg List.reverse h
      simpa using this
    rw [e]
    clear h e
    generalize r.reverse = xs
    clear r
    suffices hh : ∀ (k : Nat) (xs : List Nd), xs.length = k → ∀ p ∈ grp xs, p.1 ∈ xs ∧ 1 ≤ p.2 ∧ p.2 ≤ xs.length from hh _ _ rfl
    intro k
    induction k with
    | zero =>
      intro xs hx p hp
      rw [List.eq_nil_of_length_eq_zero hx] at hp
      unfold grp at hp
      exact nomatch hp
    | succ k ih =>
      intro xs hx p hp
      rcases List.eq_nil_or_concat xs with rfl | ⟨i, y, rfl⟩
      · simp at hx
      · rw [List.concat_eq_append] at *
        have hi : i.length = k := by simpa using hx
        have g := ih i hi
        rw [grp_app] at hp
        unfold stepG at hp
        split at hp
        · rename_i m c e
          have gm := g (m, c) (List.mem_of_getLast? e)
          split at hp
          · rcases List.mem_append.mp hp with hp | hp
            · have := g p ((List.dropLast_sublist _).subset hp)
              simp
              exact ⟨.inl this.1, this.2.1, by omega⟩
            · rw [List.mem_singleton.mp hp]
              simp
              simp at gm
              omega
          · rcases List.mem_append.mp hp with hp | hp
            · have := g p hp
              simp
              exact ⟨.inl this.1, this.2.1, by omega⟩
            · rw [List.mem_singleton.mp hp]
              simp
        · rcases List.mem_append.mp hp with hp | hp
          · have := g p hp
            simp
            exact ⟨.inl this.1, this.2.1, by omega⟩
          · rw [List.mem_singleton.mp hp]
            simp
theorem grp_len (ns : List Nd) : (grp ns).length ≤ ns.length := by
  suffices hh : ∀ (xs : List Nd) (acc : List (Nd × Nat)), (xs.foldl stepG acc).length ≤ acc.length + xs.length from by
    have := hh ns []
    show (ns.foldl stepG []).length ≤ _
    simpa using this
  intro xs
  induction xs with
  | nil => intro acc; simp
  | cons x r ih =>
    intro acc
    have h1 := ih (stepG acc x)
    have h2 := stepG_len acc x
    rw [List.foldl_cons, List.length_cons]
    omega
theorem mkRuns_ok {ns : List Nd} {l : Nat} (h : OkAll ns l) (nr : ∀ n ∈ ns, n.isRun = false) (hz : ns.length ≤ 10 ^ 60) : OkAll (mkRuns ns) l := OkAll.of fun n hn => by
  obtain ⟨p, hp, rfl⟩ := List.mem_map.mp hn
  obtain ⟨h1, h2, h3⟩ := grp_foot ns p hp
  unfold mkRun
  split
  · exact h.mem _ h1
  · unfold Ok
    exact ⟨by omega, Nat.le_trans h3 hz, nr _ h1, h.mem _ h1⟩
end
end Loc
namespace Loc
open PySem PySem.Spec PyProof.Rows L2
/-! pairs of a node and a count -/
def pdat (p : Nd × Nat) : PyData := .tuple [dat p.1, .int (p.2 : Int)]
abbrev PrsV (K : PySem.W.Frag) (H : Hp) (vs : List V) (ps : List (Nd × Nat)) : Prop := DpAll K H vs (ps.map pdat)
section
variable {K : PySem.W.Frag} {H H' : Hp}
theorem PrsV.one {a : Addr} {v : V} {p : Nd × Nat} (h : SqT K H a [v, .int (p.2 : Int)]) (k : NdV K H v p.1) : PrsV K H [.ref a] [p] := .cons (.tup h (.cons k (.cons (.int _) .nil))) .nil
theorem PrsV.inv {v : V} {p : Nd × Nat} (h : Dp K H v (pdat p)) : ∃ a u, v = .ref a ∧ SqT K H a [u, .int (p.2 : Int)] ∧ NdV K H u p.1 := by
  unfold pdat at h
  cases h with
  | tup h1 h2 =>
    cases h2 with
    | cons k1 h2 =>
      cases h2 with
      | cons k2 h2 =>
        cases h2
        cases k2
        exact ⟨_, _, rfl, h1, k1⟩
theorem DpAll.len : ∀ {ds : List PyData} {vs : List V}, DpAll K H vs ds → vs.length = ds.length
  | _, _, .nil => rfl
  | _, _, .cons _ t => by rw [List.length_cons, List.length_cons, DpAll.len t]
theorem DpAll.app : ∀ {ds es : List PyData} {vs us : List V}, DpAll K H vs ds → DpAll K H us es → DpAll K H (vs ++ us) (ds ++ es)
  | _, _, _, _, .nil, k => k
  | _, _, _, _, .cons h t, k => .cons h (DpAll.app t k)
theorem DpAll.split : ∀ {ds es : List PyData} {vs : List V}, DpAll K H vs (ds ++ es) → ∃ us ws, vs = us ++ ws ∧ DpAll K H us ds ∧ DpAll K H ws es
  | [], es, vs, h => ⟨[], vs, rfl, .nil, h⟩
  | d :: ds, es, _, .cons h t => by
    obtain ⟨us, ws, rfl, h1, h2⟩ := DpAll.split (ds := ds) (es := es) t
    exact ⟨_ :: us, ws, rfl, .cons h h1, h2⟩
theorem DpAll.get : ∀ {ds : List PyData} {vs : List V} {i : Nat} {v : V}, DpAll K H vs ds → vs[i]? = some v → ∃ d, ds[i]? = some d ∧ Dp K H v d
  | _, _, _, _, .nil, e => by simp at e
  | _, _, 0, _, .cons h t, e => by
    simp at e
    subst e
    exact ⟨_, rfl, h⟩
  | _, _, i + 1, _, .cons h t, e => by
    obtain ⟨d, h1, h2⟩ := DpAll.get (i := i) t (by simpa using e)
    exact ⟨d, by simpa using h1, h2⟩
theorem Pr.up (e : Tups K H H') {v : V} {p : Nd × Nat} (h : Dp K H v (pdat p)) : Dp K H' v (pdat p) := by
  obtain ⟨a, u, rfl, h1, h2⟩ := PrsV.inv h
  exact .tup (e _ _ h1) (.cons (h2.up e) (.cons (.int _) .nil))
theorem PrsV.up (e : Tups K H H') : ∀ {ps : List (Nd × Nat)} {vs : List V}, PrsV K H vs ps → PrsV K H' vs ps
  | [], _, h => by
    cases h
    exact .nil
  | p :: r, _, h => by
    cases h with
    | cons h1 h2 => exact .cons (Pr.up e h1) (PrsV.up e h2)
theorem canLay_prs (l : Nat) : ∀ ps : List (Nd × Nat), (∀ p ∈ ps, Ok p.1 l) → PyData.canLayAll0 (ps.map pdat) = true ∧ PyData.depthAll (ps.map pdat) ≤ 3 * l + 2
  | [], _ => by simp [PyData.canLayAll0, PyData.depthAll]
  | p :: r, h => by
    have h1 := canLay_dat p.1
    have h2 := depth_le (h p List.mem_cons_self)
    have h3 := canLay_prs l r fun q hq => h q (List.mem_cons_of_mem _ hq)
    constructor
    · simp only [List.map_cons, PyData.canLayAll0, pdat, PyData.canLay0, h1, Bool.true_and]
      exact h3.1
    · have := h3.2
      simp only [List.map_cons, PyData.depthAll, pdat, PyData.depth]
      omega
theorem shaped_prs {l : Nat} {ps : List (Nd × Nat)} (h : ∀ p ∈ ps, Ok p.1 l) (hl : l ≤ 20) : SeqAt.shaped (.list (ps.map pdat)) = true := by
  obtain ⟨h1, h2⟩ := canLay_prs l ps h
  unfold SeqAt.shaped
  rw [Bool.and_eq_true]
  exact ⟨by simpa [PyData.canLay0] using h1, decide_eq_true (by simp only [PyData.depth]; omega)⟩
theorem eqv_emptyP (ps : List (Nd × Nat)) : PyData.eqv (.list (ps.map pdat)) (.list []) = ps.isEmpty := by
  cases ps <;> simp [PyData.eqv, PyData.eqvAll]
theorem ixN_last {n : Nat} : ixN (n + 1) (-1) = some n := by
  unfold ixN
  rw [if_neg (by omega), if_pos (by omega)]
  congr 1
  omega
end
theorem cut_to (xs : List V) (k : Nat) : cutV xs none (some (k : Int)) = xs.take k := by
  unfold cutV
  rw [HT.sIx_none, HT.sIx_nat, List.drop_zero, Nat.sub_zero]
  rcases Nat.le_total k xs.length with h | h
  · rw [Nat.min_eq_left h]
  · rw [Nat.min_eq_right h, List.take_length, List.take_of_length_le h]
theorem rep_one {α : Type} (x : α) : ∀ k : Nat, (List.replicate k [x]).flatten = List.replicate k x
  | 0 => rfl
  | k + 1 => by rw [List.replicate_succ, List.flatten_cons, rep_one x k]; rfl
theorem NdsV.rep {K : PySem.W.Frag} {H : Hp} {v : V} {a : Nd} (h : NdV K H v a) : ∀ k : Nat, NdsV K H (List.replicate k v) (List.replicate k a)
  | 0 => .nil
  | k + 1 => by
    rw [List.replicate_succ, List.replicate_succ]
    exact .cons h (NdsV.rep h k)
theorem NdsV.take {K : PySem.W.Frag} {H : Hp} : ∀ {ps : List Nd} {vs : List V} (k : Nat), NdsV K H vs ps → NdsV K H (vs.take k) (ps.take k)
  | [], vs, k, h => by rw [h.inv0]; simp; exact .nil
  | a :: r, vs, 0, h => by simp; exact .nil
  | a :: r, vs, k + 1, h => by
    obtain ⟨v, q, rfl, k1, k2⟩ := h.inv
    rw [List.take_succ_cons, List.take_succ_cons]
    exact .cons k1 (NdsV.take k k2)
end Loc
namespace Loc
open PySem PySem.Spec PyProof.Rows L2
section
variable {K : PySem.W.Frag} {H : Hp}
theorem PrsV.app {ps qs : List (Nd × Nat)} {vs us : List V} (h : PrsV K H vs ps) (k : PrsV K H us qs) : PrsV K H (vs ++ us) (ps ++ qs) := by
  show DpAll K H _ _
  rw [List.map_append]
  exact DpAll.app h k
theorem PrsV.split {ps : List (Nd × Nat)} {p : Nd × Nat} {vs : List V} (h : PrsV K H vs (ps ++ [p])) : ∃ us a u, vs = us ++ [.ref a] ∧ PrsV K H us ps ∧ SqT K H a [u, .int (p.2 : Int)] ∧ NdV K H u p.1 := by
  have h : DpAll K H vs ((ps ++ [p]).map pdat) := h
  rw [List.map_append] at h
  obtain ⟨us, ws, rfl, h1, h2⟩ := DpAll.split h
  cases h2 with
  | cons k1 k2 =>
    cases k2
    obtain ⟨a, u, rfl, t1, t2⟩ := PrsV.inv k1
    exact ⟨us, a, u, rfl, h1, t1, t2⟩
theorem PrsV.len {ps : List (Nd × Nat)} {vs : List V} (h : PrsV K H vs ps) : vs.length = ps.length := by rw [DpAll.len h, List.length_map]
theorem PrsV.get {ps : List (Nd × Nat)} {vs : List V} {i : Nat} {v : V} (h : PrsV K H vs ps) (e : vs[i]? = some v) : ∃ p a u, ps[i]? = some p ∧ v = .ref a ∧ SqT K H a [u, .int (p.2 : Int)] ∧ NdV K H u p.1 := by
  obtain ⟨d, h1, h2⟩ := DpAll.get h e
  rw [List.getElem?_map] at h1
  obtain ⟨p, hp, rfl⟩ := Option.map_eq_some_iff.mp h1
  obtain ⟨a, u, rfl, t1, t2⟩ := PrsV.inv h2
  exact ⟨p, a, u, hp, rfl, t1, t2⟩
end
end Loc

set_option Elab.async false
set_option linter.all false
set_option maxRecDepth 100000
namespace Loc
open PySem PySem.Spec PyProof.Rows L2
/-! ### texts and sizes -/
def numT (n : Nat) : Str := Str.ofString (toString (n : Int))
mutual
def txt : Nd → Str
  | .el n => numT n
  | .run b c => txt b ++ Str.ofString "^" ++ numT c
  | .blk ps => Str.ofString "(" ++ Txt.join " " (txts ps) ++ Str.ofString ")"
def txts : List Nd → List Str
  | [] => []
  | a :: r => txt a :: txts r
end
mutual
def sz : Nd → Nat
  | .el _ => 1
  | .run b c => sz b * c
  | .blk ps => szs ps
def szs : List Nd → Nat
  | [] => 0
  | a :: r => sz a + szs r
end
mutual
def ht : Nd → Nat
  | .el _ => 0
  | .run b _ => ht b + 1
  | .blk ps => hts ps + 1
def hts : List Nd → Nat
  | [] => 0
  | a :: r => max (ht a) (hts r)
end
theorem hts_mem : ∀ {ps : List Nd} {n : Nd}, n ∈ ps → ht n ≤ hts ps
  | a :: r, n, h => by
    unfold hts
    rcases List.mem_cons.mp h with rfl | h
    · omega
    · have := hts_mem h
      omega
theorem txts_map : ∀ ps : List Nd, txts ps = ps.map txt
  | [] => by unfold txts; rfl
  | a :: r => by unfold txts; rw [txts_map r]; rfl
theorem szs_sum : ∀ ps : List Nd, ((ps.map fun n => ((sz n : Nat) : Int)).sum) = (szs ps : Nat)
  | [] => by unfold szs; rfl
  | a :: r => by
    unfold szs
    rw [List.map_cons, List.sum_cons, szs_sum r]
    omega
mutual
theorem ht_le : ∀ (a : Nd) (l : Nat), Ok a l → ht a ≤ 2 * l + (if a.isRun then 1 else 0)
  | .el n, l, h => by simp [ht]
  | .run b c, l, h => by
    unfold Ok at h
    have ih := ht_le b l h.2.2.2
    rw [h.2.2.1] at ih
    simp only [ht, Nd.isRun, if_true, Bool.false_eq_true, if_false] at ih ⊢
    omega
  | .blk ps, l, h => by
    unfold Ok at h
    have ih := hts_le ps (l - 1) h.2.2.2.1
    simp only [ht, Nd.isRun, Bool.false_eq_true, if_false]
    omega
theorem hts_le : ∀ (ps : List Nd) (l : Nat), OkAll ps l → hts ps ≤ 2 * l + 1
  | [], l, _ => by simp [hts]
  | a :: r, l, h => by
    unfold OkAll at h
    have h1 := ht_le a l h.1
    have h2 := hts_le r l h.2
    simp only [hts]
    split at h1 <;> omega
end
mutual
theorem sz_lt : ∀ (a : Nd) (l : Nat), Ok a l → sz a < 2 ^ (404 * l + (if a.isRun then 202 else 2))
  | .el n, l, h => by
    unfold sz
    exact Nat.one_lt_two_pow (by split <;> omega)
  | .run b c, l, h => by
    unfold Ok at h
    have ih := sz_lt b l h.2.2.2
    rw [h.2.2.1] at ih
    simp only [Nd.isRun, if_true, Bool.false_eq_true, if_false, sz] at ih ⊢
    have hc : c < 2 ^ 200 := Nat.lt_of_le_of_lt h.2.1 (by decide +kernel)
    have := Nat.mul_lt_mul'' ih hc
    rw [← Nat.pow_add] at this
    exact this
  | .blk ps, l, h => by
    unfold Ok at h
    have ih := szs_lt ps (l - 1) h.2.2.2.1
    simp only [Nd.isRun, Bool.false_eq_true, if_false, sz]
    have hp := Nat.two_pow_pos (404 * (l - 1) + 202)
    have m : ps.length * 2 ^ (404 * (l - 1) + 202) ≤ 3 * 2 ^ (404 * (l - 1) + 202) := Nat.mul_le_mul_right _ h.2.2.1
    have e : 2 ^ (404 * (l - 1) + 202) * 2 ^ 2 ≤ 2 ^ (404 * l + 2) := by
      rw [← Nat.pow_add]
      exact Nat.pow_le_pow_right (by decide) (by omega)
    omega
theorem szs_lt : ∀ (ps : List Nd) (l : Nat), OkAll ps l → szs ps ≤ ps.length * 2 ^ (404 * l + 202)
  | [], l, _ => by simp [szs]
  | a :: r, l, h => by
    unfold OkAll at h
    have h1 := sz_lt a l h.1
    have h2 := szs_lt r l h.2
    have h3 : 2 ^ (404 * l + (if a.isRun then 202 else 2)) ≤ 2 ^ (404 * l + 202) := Nat.pow_le_pow_right (by decide) (by split <;> omega)
    simp only [szs, List.length_cons]
    rw [Nat.add_mul]
    omega
end
theorem sz_small {a : Nd} {l : Nat} (h : Ok a l) : sz a < 2 ^ (404 * l + 202) := Nat.lt_of_lt_of_le (sz_lt a l h) (Nat.pow_le_pow_right (by decide) (by split <;> omega))
theorem numT_len {n k : Nat} (hk : 0 < k) (h : n < 10 ^ k) : (numT n).length ≤ k := by
  have := shown_nat hk h
  rw [PyData.shown_int] at this
  exact this
mutual
theorem txt_len : ∀ (a : Nd) (l : Nat), Ok a l → (txt a).length + (if a.isRun then 0 else 80) ≤ wide l
  | .el n, l, h => by
    unfold Ok at h
    obtain ⟨rfl, hn⟩ := h
    have := numT_len (n := n) (k := 10) (by decide) (Nat.lt_of_le_of_lt hn (by decide))
    simp only [txt, Nd.isRun, wide, Bool.false_eq_true, if_false]
    omega
  | .run b c, l, h => by
    unfold Ok at h
    have ih := txt_len b l h.2.2.2
    rw [h.2.2.1] at ih
    have h1 := numT_len (n := c) (k := 61) (by decide) (Nat.lt_of_le_of_lt h.2.1 (by decide +kernel))
    simp only [txt, Nd.isRun, if_true, Bool.false_eq_true, if_false, strLen_append] at ih ⊢
    have e : (Str.ofString "^").length = 1 := by decide +kernel
    omega
  | .blk ps, l, h => by
    unfold Ok at h
    obtain ⟨hl, h2, h3, h4, _⟩ := h
    obtain ⟨j, rfl⟩ : ∃ j, l = j + 1 := ⟨l - 1, by omega⟩
    have ih := txts_len ps j h4
    have m : ps.length * wide j ≤ 3 * wide j := Nat.mul_le_mul_right _ h3
    have g := size_glued " " (txts ps)
    have e1 : (Str.ofString "(").length = 1 := by decide +kernel
    have e2 : (Str.ofString ")").length = 1 := by decide +kernel
    have e3 : (Str.ofString " ").length = 1 := by decide +kernel
    have e4 : (txts ps).length = ps.length := by rw [txts_map, List.length_map]
    rw [e3, e4] at g
    simp only [txt, Nd.isRun, Bool.false_eq_true, if_false, strLen_append, wide]
    show (Str.ofString "(").length + (Builtin.Str.glued " " (txts ps)).length + (Str.ofString ")").length + 80 ≤ _
    omega
theorem txts_len : ∀ (ps : List Nd) (l : Nat), OkAll ps l → ((txts ps).map (·.length)).sum ≤ ps.length * wide l
  | [], l, _ => by simp [txts]
  | a :: r, l, h => by
    unfold OkAll at h
    have h1 := txt_len a l h.1
    have h2 := txts_len r l h.2
    simp only [txts, List.map_cons, List.sum_cons, List.length_cons]
    rw [Nat.add_mul]
    omega
end
def C8 (s : Str) : Prop := ∀ c ∈ s.cps.toList, c < 16 ^ 8
theorem C8.of (s : String) : C8 (Str.ofString s) := fun c hc => by
  rw [signs_ofString] at hc
  obtain ⟨d, _, rfl⟩ := List.mem_map.mp hc
  exact d.val.toNat_lt
theorem C8.app {a b : Str} (h : C8 a) (k : C8 b) : C8 (a ++ b) := fun c hc => by
  have e : (a ++ b).cps.toList = a.cps.toList ++ b.cps.toList := by
    show (a.cps ++ b.cps).toList = _
    simp
  rw [e] at hc
  rcases List.mem_append.mp hc with hc | hc
  · exact h c hc
  · exact k c hc
theorem C8.join {sep : Str} (hs : C8 sep) : ∀ {l : List Str}, (∀ y ∈ l, C8 y) → C8 (Str.join sep l)
  | [], _ => fun c hc => by
    have : (Str.join sep []).cps.toList = [] := rfl
    rw [this] at hc
    cases hc
  | [x], h => h x List.mem_cons_self
  | x :: y :: r, h => ((h x List.mem_cons_self).app hs).app (C8.join hs fun z hz => h z (List.mem_cons_of_mem _ hz))
mutual
theorem txt_c8 : ∀ a : Nd, C8 (txt a)
  | .el n => by unfold txt; exact .of _
  | .run b c => by unfold txt; exact ((txt_c8 b).app (.of _)).app (.of _)
  | .blk ps => by
    unfold txt
    refine ((C8.of "(").app ?_).app (.of _)
    show C8 (Builtin.Str.glued " " (txts ps))
    rw [StrLaws.glued_eq_join]
    exact C8.join (.of _) (txts_c8 ps)
theorem txts_c8 : ∀ ps : List Nd, ∀ y ∈ txts ps, C8 y
  | [], y, h => by unfold txts at h; cases h
  | a :: r, y, h => by
    unfold txts at h
    rcases List.mem_cons.mp h with rfl | h
    · exact txt_c8 a
    · exact txts_c8 r y h
end
/-! repr of a node or a number -/
def rRepA (K : PySem.W.Frag) : List V → Hp → VK → Prop := fun xs H Q => rRep K xs H Q ∨ ∃ i : Int, xs = [.int i] ∧ i.natAbs.log2 < 1920 ∧ Q (.str (Str.ofString (toString i))) H
theorem call_repA {X : Cx} {k : Nat} (hr : Room k X.A) (hg : X.A.guards = some []) : CallR X (.builtin "repr") (rRepA X.K) := by
  intro pins s σ H xs us Q I r h
  rcases h with h | ⟨i, rfl, hz, q⟩
  · exact call_rep hr hg pins s σ H xs us Q I r h
  · obtain ⟨u, rfl, t, rfl⟩ := vals1 r
    exact PySem.P.repr_of_int hz ⟨.str _, H, I.tok _, ⟨_, rfl⟩, q⟩
theorem rep_node {K : PySem.W.Frag} {H : Hp} {v : V} {n : Nd} {l : Nat} {Q : VK} (hn : NdV K H v n) (ok : Ok n l) (hl : l ≤ 20) (hz : wide l ≤ sizeLine) (q : Q (.str (PyData.shown (dat n))) H) : rRepA K [v] H Q := by
  have d := depth_le ok
  have w := shown_dat n l ok
  have sh := showable_dat n l ok
  cases n with
  | el m =>
    have ev := hn.el
    subst ev
    refine .inr ⟨m, rfl, ?_, ?_⟩
    · simpa [dat, PyData.showable] using sh
    · have e : (dat (.el m)).shown = Str.ofString (toString (m : Int)) := by unfold dat; exact PyData.shown_int _
      rw [← e]
      exact q
  | run b c =>
    obtain ⟨a, v2, rfl, _, _⟩ := hn.run
    exact .inl ⟨a, _, rfl, hn, sh, noDict_dat _, by omega, by split at w <;> omega, q⟩
  | blk ps =>
    obtain ⟨a, b, vs, rfl, _, _, _⟩ := hn.blk
    exact .inl ⟨a, _, rfl, hn, sh, noDict_dat _, by omega, by split at w <;> omega, q⟩
end Loc

/-! the lowest digit in which two naturals differ -/
namespace M07
theorem or_two (a b : Nat) : (a ||| b) = 2 * ((a / 2) ||| (b / 2)) + (if a % 2 = 0 ∧ b % 2 = 0 then 0 else 1) := by
  have h1 : (a ||| b) / 2 = (a / 2) ||| (b / 2) := Nat.or_div_two
  have h2 : (a ||| b) % 2 = if a % 2 = 0 ∧ b % 2 = 0 then 0 else 1 := by
    have h3 := @Nat.or_mod_two_eq_one a b
    split <;> omega
  rw [← h1, ← h2]
  omega
theorem and_two (a b : Nat) : (a &&& b) = 2 * ((a / 2) &&& (b / 2)) + (if a % 2 = 1 ∧ b % 2 = 1 then 1 else 0) := by
  have h1 : (a &&& b) / 2 = (a / 2) &&& (b / 2) := Nat.and_div_two
  have h2 : (a &&& b) % 2 = if a % 2 = 1 ∧ b % 2 = 1 then 1 else 0 := by
    have h3 := @Nat.and_mod_two_eq_one a b
    split <;> omega
  rw [← h1, ← h2]
  omega
/-- the digits of one and not of the other -/
def dif (a b : Nat) : Nat := (a ||| b) - (a &&& b)
theorem and_le_or : ∀ (n a b : Nat), a + b ≤ n → (a &&& b) ≤ (a ||| b)
  | 0, a, b, h => by
    have e1 : a = 0 := by omega
    have e2 : b = 0 := by omega
    subst e1; subst e2; decide
  | n + 1, a, b, h => by
    by_cases z : a + b = 0
    · have e1 : a = 0 := by omega
      have e2 : b = 0 := by omega
      subst e1; subst e2; decide
    · have ih := and_le_or n (a / 2) (b / 2) (by omega)
      rw [or_two a b, and_two a b]
      split <;> split <;> omega
theorem dif_two (a b : Nat) : dif a b = 2 * dif (a / 2) (b / 2) + (if a % 2 = b % 2 then 0 else 1) := by
  unfold dif
  have k := and_le_or _ (a / 2) (b / 2) (Nat.le_refl _)
  rw [or_two a b, and_two a b]
  split <;> split <;> split <;> omega
/-- the lowest digit in which they differ, looked for within the fuel -/
def low : Nat → Nat → Nat → Nat
  | 0, _, _ => 0
  | n + 1, a, b => if a % 2 = b % 2 then low n (a / 2) (b / 2) + 1 else 0
theorem low_spec : ∀ (n a b : Nat), a + b < n → a ≠ b →
    (∃ q, dif a b = 2 ^ low n a b * (2 * q + 1)) ∧ (a / 2 ^ low n a b) % 2 ≠ (b / 2 ^ low n a b) % 2 ∧ ∀ i, i < low n a b → (a / 2 ^ i) % 2 = (b / 2 ^ i) % 2
  | 0, a, b, h, _ => by omega
  | n + 1, a, b, h, hne => by
    unfold low
    have hd := dif_two a b
    by_cases e : a % 2 = b % 2
    · rw [if_pos e]
      rw [if_pos e] at hd
      obtain ⟨⟨q, h1⟩, h2, h3⟩ := low_spec n (a / 2) (b / 2) (by omega) (by omega)
      refine ⟨⟨q, ?_⟩, ?_, fun i hi => ?_⟩
      · rw [hd, h1, Nat.pow_succ]
        simp [Nat.mul_assoc, Nat.mul_comm, Nat.mul_left_comm]
      · rw [Nat.pow_succ, Nat.mul_comm, ← Nat.div_div_eq_div_mul, ← Nat.div_div_eq_div_mul]
        exact h2
      · cases i with
        | zero => simpa using e
        | succ i =>
          rw [Nat.pow_succ, Nat.mul_comm, ← Nat.div_div_eq_div_mul, ← Nat.div_div_eq_div_mul]
          exact h3 i (by omega)
    · rw [if_neg e]
      rw [if_neg e] at hd
      refine ⟨⟨dif (a / 2) (b / 2), ?_⟩, ?_, fun i hi => ?_⟩
      · rw [hd]; simp
      · simpa using e
      · omega
/-- u & (u - 1), u = 2 ^ t * odd -/
theorem and_pred : ∀ (t q : Nat), (2 ^ t * (2 * q + 1)) &&& (2 ^ t * (2 * q + 1) - 1) = 2 ^ t * (2 * q)
  | 0, q => by
    simp only [Nat.pow_zero, Nat.one_mul, Nat.add_sub_cancel]
    rw [and_two]
    rw [show (2 * q + 1) / 2 = q by omega, show 2 * q / 2 = q by omega, Nat.and_self]
    rw [if_neg (by omega)]
    omega
  | t + 1, q => by
    have ih := and_pred t q
    have hp : 0 < 2 ^ t * (2 * q + 1) := Nat.mul_pos (Nat.two_pow_pos t) (by omega)
    rw [show 2 ^ (t + 1) * (2 * q + 1) = 2 * (2 ^ t * (2 * q + 1)) by rw [Nat.pow_succ]; simp [Nat.mul_assoc, Nat.mul_comm, Nat.mul_left_comm]]
    rw [show 2 ^ (t + 1) * (2 * q) = 2 * (2 ^ t * (2 * q)) by rw [Nat.pow_succ]; simp [Nat.mul_assoc, Nat.mul_comm, Nat.mul_left_comm]]
    generalize 2 ^ t * (2 * q + 1) = u at ih hp ⊢
    rw [and_two, if_neg (by omega)]
    rw [show 2 * u / 2 = u by omega, show (2 * u - 1) / 2 = u - 1 by omega, ih]
    omega
/-- the mark of a later place -/
def mk (a b : Nat) : Nat := 2 * low (a + b + 1) a b + (b / 2 ^ low (a + b + 1) a b) % 2
/-- a later round -/
def marks : Nat → List Nat → List Nat
  | _, [] => []
  | a, b :: r => mk a b :: marks b r
def round : List Nat → List Nat
  | [] => []
  | a :: r => a % 2 :: marks a r
theorem marks_length : ∀ (a : Nat) (l : List Nat), (marks a l).length = l.length
  | _, [] => rfl
  | a, b :: r => by show (marks b r).length + 1 = r.length + 1; rw [marks_length b r]
theorem round_length (l : List Nat) : (round l).length = l.length := by
  cases l with
  | nil => rfl
  | cons a r => show (marks a r).length + 1 = r.length + 1; rw [marks_length]
theorem marks_get : ∀ (a : Nat) (l : List Nat) (i x y : Nat), (a :: l)[i]? = some x → (a :: l)[i + 1]? = some y → (marks a l)[i]? = some (mk x y)
  | a, [], i, x, y, _, h => by simp at h
  | a, b :: r, 0, x, y, h1, h2 => by
    simp at h1 h2
    subst h1; subst h2; rfl
  | a, b :: r, i + 1, x, y, h1, h2 => by
    show (marks b r)[i]? = _
    exact marks_get b r i x y h1 h2
theorem round_get (l : List Nat) (i x y : Nat) (h1 : l[i]? = some x) (h2 : l[i + 1]? = some y) : (round l)[i + 1]? = some (mk x y) := by
  cases l with
  | nil => simp at h1
  | cons a r => exact marks_get a r i x y h1 h2
/-- neighbours unlike -/
def Unl : List Nat → Prop
  | a :: b :: r => a ≠ b ∧ Unl (b :: r)
  | _ => True
theorem Unl.get : ∀ {l : List Nat} {i x y : Nat}, Unl l → l[i]? = some x → l[i + 1]? = some y → x ≠ y
  | [], _, _, _, _, h, _ => by simp at h
  | [_], i, _, _, _, _, h => by simp at h
  | a :: b :: r, 0, x, y, u, h1, h2 => by
    simp at h1 h2
    subst h1; subst h2; exact u.1
  | a :: b :: r, i + 1, x, y, u, h1, h2 => Unl.get (l := b :: r) (i := i) u.2 (by simpa using h1) (by simpa using h2)
theorem mk_low {a b : Nat} (h : a ≠ b) : mk a b / 2 = low (a + b + 1) a b ∧ mk a b % 2 = (b / 2 ^ low (a + b + 1) a b) % 2 := by
  unfold mk
  omega
theorem mk_ne {a b c : Nat} (h1 : a ≠ b) (h2 : b ≠ c) : mk a b ≠ mk b c := fun e => by
  obtain ⟨p1, p2⟩ := mk_low h1
  obtain ⟨q1, q2⟩ := mk_low h2
  rw [e] at p1 p2
  have el : low (a + b + 1) a b = low (b + c + 1) b c := p1.symm.trans q1
  obtain ⟨_, k, _⟩ := low_spec (b + c + 1) b c (by omega) h2
  rw [← el] at k q2
  exact k (p2.symm.trans q2)
theorem mk_ne0 {a b : Nat} (h : a ≠ b) : a % 2 ≠ mk a b := fun e => by
  obtain ⟨p1, p2⟩ := mk_low h
  obtain ⟨_, k, _⟩ := low_spec (a + b + 1) a b (by omega) h
  have e0 : low (a + b + 1) a b = 0 := by omega
  rw [e0] at k p2
  simp at k p2
  omega
theorem marks_unl : ∀ (a : Nat) (l : List Nat), Unl (a :: l) → Unl (marks a l)
  | _, [], _ => trivial
  | _, [_], _ => trivial
  | a, b :: c :: r, u => ⟨mk_ne u.1 u.2.1, marks_unl b (c :: r) u.2⟩
theorem round_unl (l : List Nat) (u : Unl l) : Unl (round l) := by
  match l, u with
  | [], _ => trivial
  | [_], _ => trivial
  | a :: b :: r, u => exact ⟨mk_ne0 u.1, marks_unl a (b :: r) u⟩
end M07

set_option Elab.async false
set_option linter.all false
namespace M07
open PySem PyProof.Rows
theorem xor_nn (x y : Nat) : Builtin.bitXor (x : Int) (y : Int) = (dif x y : Nat) := by
  show Builtin.bitOr (x : Int) (y : Int) - Builtin.bitAnd (x : Int) (y : Int) = _
  have k := and_le_or _ x y (Nat.le_refl _)
  rw [L2.bitOr_nn (Int.natCast_nonneg _) (Int.natCast_nonneg _), bitAnd_pp (Int.natCast_nonneg _) (Int.natCast_nonneg _)]
  simp only [Int.toNat_natCast]
  unfold dif
  omega
theorem and_neg (u : Nat) (h : 0 < u) : Builtin.bitAnd (u : Int) (-(u : Int)) = (u : Int) - ((u &&& (u - 1) : Nat) : Int) := by
  have h1 : ¬ 0 ≤ -(u : Int) := by omega
  have h2 : (0 : Int) ≤ u := by omega
  have e : (Builtin.bitNot (-(u : Int))).toNat = u - 1 := by
    show (- -(u : Int) - 1).toNat = u - 1
    omega
  unfold Builtin.bitAnd
  rw [decide_eq_true h2, decide_eq_false h1]
  show (u : Int) - (((u : Int).toNat &&& (Builtin.bitNot (-(u : Int))).toNat : Nat) : Int) = _
  rw [e, Int.toNat_natCast]
theorem low_word {x y : Nat} (h : x ≠ y) : ((Builtin.Int.intBits (Builtin.bitAnd (Builtin.bitXor (x : Int) (y : Int)) (-(Builtin.bitXor (x : Int) (y : Int)))) : Nat) : Int) - 1 = (low (x + y + 1) x y : Nat) := by
  obtain ⟨⟨q, e⟩, _, _⟩ := low_spec (x + y + 1) x y (by omega) h
  generalize low (x + y + 1) x y = t at e ⊢
  have hp : 0 < 2 ^ t := Nat.two_pow_pos t
  have hu : 0 < dif x y := by
    rw [e]
    exact Nat.mul_pos hp (by omega)
  rw [xor_nn, and_neg _ hu, e, and_pred t q]
  have e2 : ((2 ^ t * (2 * q + 1) : Nat) : Int) - ((2 ^ t * (2 * q) : Nat) : Int) = ((2 ^ t : Nat) : Int) := by
    rw [show 2 ^ t * (2 * q + 1) = 2 ^ t * (2 * q) + 2 ^ t by rw [Nat.mul_add, Nat.mul_one]]
    omega
  rw [e2]
  unfold Builtin.Int.intBits
  have hz : ¬ (((2 ^ t : Nat) : Int) == 0) = true := by
    rw [beq_iff_eq]
    omega
  rw [if_neg hz, Int.natAbs_natCast, Nat.log2_two_pow]
  omega
theorem high_word (y t : Nat) : Builtin.bitAnd ((y : Int) / 2 ^ t) 1 = ((y / 2 ^ t % 2 : Nat) : Int) := by
  rw [PyProof.Rows.bitAnd_m1, ← PySem.W.kbt_cast t]
  omega
theorem mark_word {x y : Nat} (h : x ≠ y) : 2 * (((Builtin.Int.intBits (Builtin.bitAnd (Builtin.bitXor (x : Int) (y : Int)) (-(Builtin.bitXor (x : Int) (y : Int)))) : Nat) : Int) - 1) +
    Builtin.bitAnd ((y : Int) / 2 ^ (((Builtin.Int.intBits (Builtin.bitAnd (Builtin.bitXor (x : Int) (y : Int)) (-(Builtin.bitXor (x : Int) (y : Int)))) : Nat) : Int) - 1).toNat) 1 = (mk x y : Nat) := by
  rw [low_word h, Int.toNat_natCast, high_word]
  unfold mk
  omega
end M07

set_option Elab.async false
set_option linter.all false
set_option maxRecDepth 100000
namespace Loc
open PySem PySem.Spec PyProof.Rows L2 TL
/-! ### texts as lists of signs -/
mutual
def cd : Nd → List Nat
  | .el n => numL n
  | .run b c => cd b ++ 94 :: numL c
  | .blk ps => 40 :: cds ps
def cds : List Nd → List Nat
  | [] => [41]
  | a :: r => cd a ++ cdt r
def cdt : List Nd → List Nat
  | [] => [41]
  | a :: r => 32 :: (cd a ++ cdt r)
end
theorem cd_run (b : Nd) (c : Nat) : cd (.run b c) = cd b ++ 94 :: numL c := by rw [cd]
/-- a sign of a text -/
def Sg (c : Nat) : Prop := (48 ≤ c ∧ c ≤ 57) ∨ c = 32 ∨ c = 40 ∨ c = 41 ∨ c = 94
theorem numL_sg (n : Nat) : ∀ c ∈ numL n, 48 ≤ c ∧ c ≤ 57 := fun c hc => numL_digits n c hc
mutual
theorem cd_sg : ∀ a : Nd, ∀ c ∈ cd a, Sg c
  | .el n, c, h => by
    unfold cd at h
    exact .inl (numL_sg n c h)
  | .run b k, c, h => by
    unfold cd at h
    rcases List.mem_append.mp h with h | h
    · exact cd_sg b c h
    rcases List.mem_cons.mp h with h | h
    · exact .inr (.inr (.inr (.inr h)))
    · exact .inl (numL_sg k c h)
  | .blk ps, c, h => by
    unfold cd at h
    rcases List.mem_cons.mp h with h | h
    · exact .inr (.inr (.inl h))
    · exact cds_sg ps c h
theorem cds_sg : ∀ ps : List Nd, ∀ c ∈ cds ps, Sg c
  | [], c, h => by
    unfold cds at h
    exact .inr (.inr (.inr (.inl (List.mem_singleton.mp h))))
  | a :: r, c, h => by
    unfold cds at h
    rcases List.mem_append.mp h with h | h
    · exact cd_sg a c h
    · exact cdt_sg r c h
theorem cdt_sg : ∀ ps : List Nd, ∀ c ∈ cdt ps, Sg c
  | [], c, h => by
    unfold cdt at h
    exact .inr (.inr (.inr (.inl (List.mem_singleton.mp h))))
  | a :: r, c, h => by
    unfold cdt at h
    rcases List.mem_cons.mp h with h | h
    · exact .inr (.inl h)
    rcases List.mem_append.mp h with h | h
    · exact cd_sg a c h
    · exact cdt_sg r c h
end
/-- what may stand behind a node's text; behind that of a base -/
def Dl (s : List Nat) : Prop := s = [] ∨ ∃ r, s = 32 :: r ∨ s = 41 :: r
def Dv (s : List Nat) : Prop := Dl s ∨ ∃ r, s = 94 :: r
theorem Dv.no {s : List Nat} {c : Nat} {r : List Nat} (h : Dv s) (e : s = c :: r) (d : (48 ≤ c ∧ c ≤ 57) ∨ c = 40) : False := by
  rcases h with (h | ⟨q, h | h⟩) | ⟨q, h⟩
  · rw [h] at e; cases e
  · rw [h] at e
    injection e with e _
    omega
  · rw [h] at e
    injection e with e _
    omega
  · rw [h] at e
    injection e with e _
    omega
theorem digs : ∀ (x y s t : List Nat), (∀ c ∈ x, 48 ≤ c ∧ c ≤ 57) → (∀ c ∈ y, 48 ≤ c ∧ c ≤ 57) → Dv s → Dv t → x ++ s = y ++ t → x = y ∧ s = t
  | [], [], s, t, _, _, _, _, e => ⟨rfl, e⟩
  | [], d :: y, s, t, _, hy, ds, _, e => (ds.no e (.inl (hy d List.mem_cons_self))).elim
  | d :: x, [], s, t, hx, _, _, dt, e => (dt.no e.symm (.inl (hx d List.mem_cons_self))).elim
  | c :: x, d :: y, s, t, hx, hy, ds, dt, e => by
    injection e with e1 e2
    obtain ⟨h1, h2⟩ := digs x y s t (fun z hz => hx z (List.mem_cons_of_mem _ hz)) (fun z hz => hy z (List.mem_cons_of_mem _ hz)) ds dt e2
    exact ⟨by rw [e1, h1], h2⟩
theorem Dl.no94 {r : List Nat} (h : Dl (94 :: r)) : False := by
  rcases h with h | ⟨q, h | h⟩
  · cases h
  · injection h with h _; exact absurd h (by decide)
  · injection h with h _; exact absurd h (by decide)
mutual
theorem cd_head : ∀ a : Nd, ∃ c r, cd a = c :: r ∧ ((48 ≤ c ∧ c ≤ 57) ∨ c = 40)
  | .el n => by
    unfold cd
    cases e : numL n with
    | nil => exact absurd e (numL_ne n)
    | cons c r => exact ⟨c, r, rfl, .inl (numL_sg n c (by rw [e]; exact List.mem_cons_self))⟩
  | .run b k => by
    obtain ⟨c, r, e, d⟩ := cd_head b
    unfold cd
    rw [e]
    exact ⟨c, _, rfl, d⟩
  | .blk ps => by
    unfold cd
    exact ⟨40, _, rfl, .inr rfl⟩
end
theorem cdt_dl (ps : List Nd) (s : List Nat) : Dl (cdt ps ++ s) := by
  cases ps with
  | nil => unfold cdt; exact .inr ⟨_, .inr rfl⟩
  | cons a r => unfold cdt; exact .inr ⟨_, .inl rfl⟩
def Inj (a : Nd) : Prop := (∀ (b : Nd) (l l' : Nat) (s t : List Nat), a.isRun = false → b.isRun = false → Ok a l → Ok b l' → Dv s → Dv t → cd a ++ s = cd b ++ t → a = b ∧ s = t)
def InjU (a : Nd) : Prop := (∀ (b : Nd) (l l' : Nat) (s t : List Nat), Ok a l → Ok b l' → Dl s → Dl t → cd a ++ s = cd b ++ t → a = b ∧ s = t)
theorem injU_of {a : Nd} (h : Inj a) (hr : a.isRun = false) : InjU a := fun b l l' s t oa ob ds dt e => by
  cases b with
  | run b c =>
    rw [cd_run, List.append_assoc] at e
    have ob' := ob
    unfold Ok at ob'
    obtain ⟨_, h2⟩ := h b l l' s _ hr ob'.2.2.1 oa ob'.2.2.2 (.inl ds) (.inr ⟨numL c ++ t, rfl⟩) e
    exact (Dl.no94 (h2 ▸ ds)).elim
  | el n => exact h _ l l' s t hr rfl oa ob (.inl ds) (.inl dt) e
  | blk ps => exact h _ l l' s t hr rfl oa ob (.inl ds) (.inl dt) e
theorem injU_run {a : Nd} {c : Nat} (h : Inj a) : InjU (.run a c) := fun b l l' s t oa ob ds dt e => by
  unfold Ok at oa
  cases b with
  | run b d =>
    unfold Ok at ob
    rw [cd_run, cd_run, List.append_assoc, List.append_assoc] at e
    obtain ⟨h1, h2⟩ := h b l l' _ _ oa.2.2.1 ob.2.2.1 oa.2.2.2 ob.2.2.2 (.inr ⟨_, rfl⟩) (.inr ⟨_, rfl⟩) e
    injection h2 with _ h2
    have h2 : numL c ++ s = numL d ++ t := h2
    obtain ⟨h3, h4⟩ := digs _ _ s t (numL_sg c) (numL_sg d) (.inl ds) (.inl dt) h2
    exact ⟨by rw [h1, numL_inj h3], h4⟩
  | el n =>
    rw [cd_run, List.append_assoc] at e
    obtain ⟨_, h2⟩ := h (.el n) l l' _ t oa.2.2.1 rfl oa.2.2.2 ob (.inr ⟨numL c ++ s, rfl⟩) (.inl dt) e
    exact (Dl.no94 (h2 ▸ dt)).elim
  | blk ps =>
    rw [cd_run, List.append_assoc] at e
    obtain ⟨_, h2⟩ := h (.blk ps) l l' _ t oa.2.2.1 rfl oa.2.2.2 ob (.inr ⟨numL c ++ s, rfl⟩) (.inl dt) e
    exact (Dl.no94 (h2 ▸ dt)).elim
mutual
theorem inj : ∀ a : Nd, Inj a
  | .el n => fun b l l' s t _ rb oa ob ds dt e => by
    cases b with
    | run b c => cases rb
    | el m =>
      unfold cd at e
      obtain ⟨h1, h2⟩ := digs _ _ s t (numL_sg n) (numL_sg m) ds dt e
      exact ⟨by rw [numL_inj h1], h2⟩
    | blk ps =>
      exfalso
      unfold cd at e
      cases en : numL n with
      | nil => exact numL_ne n en
      | cons c r =>
        rw [en, List.cons_append, List.cons_append] at e
        injection e with e _
        have := numL_sg n c (by rw [en]; exact List.mem_cons_self)
        omega
  | .run b c => fun _ _ _ _ _ ra => by cases ra
  | .blk ps => fun b l l' s t _ rb oa ob ds dt e => by
    cases b with
    | run b c => cases rb
    | el m =>
      exfalso
      unfold cd at e
      cases en : numL m with
      | nil => exact numL_ne m en
      | cons c r =>
        rw [en, List.cons_append, List.cons_append] at e
        injection e with e _
        have := numL_sg m c (by rw [en]; exact List.mem_cons_self)
        omega
    | blk qs =>
      unfold Ok at oa ob
      unfold cd at e
      rw [List.cons_append, List.cons_append] at e
      injection e with _ e
      match ps, qs, oa, ob, e with
      | [], _, oa, _, _ => exact absurd oa.2.1 (by simp)
      | _ :: _, [], _, ob, _ => exact absurd ob.2.1 (by simp)
      | a :: r, b :: q, oa, ob, e =>
        unfold cds at e
        have o1 := oa.2.2.2.1
        have o2 := ob.2.2.2.1
        unfold OkAll at o1 o2
        rw [List.append_assoc, List.append_assoc] at e
        obtain ⟨h1, h2⟩ := injUs a b _ _ _ _ o1.1 o2.1 (cdt_dl r s) (cdt_dl q t) e
        obtain ⟨h3, h4⟩ := injT r q _ _ s t o1.2 o2.2 h2
        exact ⟨by rw [h1, h3], h4⟩
theorem injUs : ∀ a : Nd, InjU a
  | .el n => injU_of (inj (.el n)) rfl
  | .run b c => injU_run (inj b)
  | .blk ps => injU_of (inj (.blk ps)) rfl
theorem injT : ∀ (ps qs : List Nd) (l l' : Nat) (s t : List Nat), OkAll ps l → OkAll qs l' → cdt ps ++ s = cdt qs ++ t → ps = qs ∧ s = t
  | [], [], _, _, s, t, _, _, e => by
    unfold cdt at e
    injection e with _ e
    exact ⟨rfl, e⟩
  | [], b :: q, _, _, s, t, _, _, e => by
    unfold cdt at e
    injection e with e _
    exact absurd e (by decide)
  | a :: r, [], _, _, s, t, _, _, e => by
    unfold cdt at e
    injection e with e _
    exact absurd e (by decide)
  | a :: r, b :: q, l, l', s, t, oa, ob, e => by
    unfold cdt at e
    rw [List.cons_append, List.cons_append, List.append_assoc, List.append_assoc] at e
    injection e with _ e
    unfold OkAll at oa ob
    obtain ⟨h1, h2⟩ := injUs a b l l' _ _ oa.1 ob.1 (cdt_dl r s) (cdt_dl q t) e
    obtain ⟨h3, h4⟩ := injT r q l l' s t oa.2 ob.2 h2
    exact ⟨by rw [h1, h3], h4⟩
end
theorem cd_inj {a b : Nd} {l l' : Nat} (oa : Ok a l) (ob : Ok b l') (e : cd a = cd b) : a = b :=
  (injUs a b l l' [] [] oa ob (.inl rfl) (.inl rfl) (by rw [e])).1
end Loc

set_option Elab.async false
set_option linter.all false
set_option maxRecDepth 100000
namespace Loc
open PySem PySem.Spec PyProof.Rows L2 TL
/-! ### first marks -/
def cp : List Nat → List Nat → Nat
  | a :: r, b :: q => if a = b then cp r q + 1 else 0
  | _, _ => 0
theorem cp_same : ∀ (a b : List Nat) (i : Nat), i < cp a b → ∃ x, a[i]? = some x ∧ b[i]? = some x
  | [], _, i, h => by unfold cp at h; exact absurd h (Nat.not_lt_zero _)
  | _ :: _, [], i, h => by unfold cp at h; exact absurd h (Nat.not_lt_zero _)
  | a :: r, b :: q, i, h => by
    unfold cp at h
    split at h
    · rename_i e
      cases i with
      | zero => exact ⟨a, rfl, by rw [e]; rfl⟩
      | succ i => exact cp_same r q i (by omega)
    · exact absurd h (Nat.not_lt_zero _)
theorem cp_le : ∀ (a b : List Nat), cp a b ≤ a.length ∧ cp a b ≤ b.length
  | [], _ => by unfold cp; exact ⟨Nat.zero_le _, Nat.zero_le _⟩
  | _ :: _, [] => by unfold cp; exact ⟨Nat.zero_le _, Nat.zero_le _⟩
  | a :: r, b :: q => by
    have := cp_le r q
    unfold cp
    simp only [List.length_cons]
    split <;> omega
/-- there they differ, or one has ended -/
theorem cp_end : ∀ (a b : List Nat), a ≠ b → a[cp a b]? ≠ b[cp a b]?
  | [], [], h => absurd rfl h
  | [], b :: q, _ => by unfold cp; simp
  | a :: r, [], _ => by unfold cp; simp
  | a :: r, b :: q, h => by
    unfold cp
    split
    · rename_i e
      exact cp_end r q fun z => h (by rw [e, z])
    · rename_i e
      simpa using e
def code (c : Nat) : Nat := if 48 ≤ c ∧ c ≤ 57 then c - 48 else if c = 32 then 10 else if c = 40 then 11 else if c = 41 then 12 else if c = 94 then 13 else 14
theorem code_lt {c : Nat} (h : Sg c) : code c < 14 := by
  unfold code
  unfold Sg at h
  split
  · omega
  split
  · omega
  split
  · omega
  split
  · omega
  split
  · omega
  · omega
theorem code_inj {c d : Nat} (h : Sg c) (k : Sg d) (e : code c = code d) : c = d := by
  unfold code at e
  unfold Sg at h k
  rcases h with h | h | h | h | h <;> rcases k with k | k | k | k | k <;> simp_all <;> omega
def codeAt (t : List Nat) (i : Nat) : Nat := match t[i]? with
  | some c => code c
  | none => 14
theorem codeAt_some {t : List Nat} {i c : Nat} (h : t[i]? = some c) : codeAt t i = code c := by unfold codeAt; rw [h]
theorem codeAt_none {t : List Nat} {i : Nat} (h : t[i]? = none) : codeAt t i = 14 := by unfold codeAt; rw [h]
theorem codeAt_le {t : List Nat} (h : ∀ c ∈ t, Sg c) (i : Nat) : codeAt t i ≤ 14 := by
  cases e : t[i]? with
  | none => rw [codeAt_none e]; exact Nat.le_refl _
  | some c => rw [codeAt_some e]; exact Nat.le_of_lt (code_lt (h c (List.mem_of_getElem? e)))
theorem codeAt_ne {a b : List Nat} (ha : ∀ c ∈ a, Sg c) (hb : ∀ c ∈ b, Sg c) {i : Nat} (h : a[i]? ≠ b[i]?) : codeAt a i ≠ codeAt b i := by
  cases e : a[i]? with
  | none =>
    cases k : b[i]? with
    | none => rw [e, k] at h; exact absurd rfl h
    | some d =>
      rw [codeAt_none e, codeAt_some k]
      have := code_lt (hb d (List.mem_of_getElem? k))
      omega
  | some c =>
    have h1 := code_lt (ha c (List.mem_of_getElem? e))
    cases k : b[i]? with
    | none =>
      rw [codeAt_none k, codeAt_some e]
      omega
    | some d =>
      rw [codeAt_some e, codeAt_some k]
      intro z
      have := code_inj (ha c (List.mem_of_getElem? e)) (hb d (List.mem_of_getElem? k)) z
      rw [e, k, this] at h
      exact h rfl
def fmk (a b : List Nat) : Nat := 16 * cp a b + codeAt b (cp a b)
def fmt : List Nat → List (List Nat) → List Nat
  | _, [] => []
  | a, b :: r => fmk a b :: fmt b r
def fms : List (List Nat) → List Nat
  | [] => []
  | a :: r => codeAt a 0 :: fmt a r
theorem fmt_length : ∀ (a : List Nat) (l : List (List Nat)), (fmt a l).length = l.length
  | _, [] => rfl
  | a, b :: r => by show (fmt b r).length + 1 = r.length + 1; rw [fmt_length b r]
theorem fms_length (l : List (List Nat)) : (fms l).length = l.length := by
  cases l with
  | nil => rfl
  | cons a r => show (fmt a r).length + 1 = r.length + 1; rw [fmt_length]
theorem fmt_get : ∀ (a : List Nat) (l : List (List Nat)) (i : Nat) (x y : List Nat), (a :: l)[i]? = some x → (a :: l)[i + 1]? = some y → (fmt a l)[i]? = some (fmk x y)
  | a, [], i, x, y, _, h => by simp at h
  | a, b :: r, 0, x, y, h1, h2 => by
    simp at h1 h2
    subst h1; subst h2; rfl
  | a, b :: r, i + 1, x, y, h1, h2 => by
    show (fmt b r)[i]? = _
    exact fmt_get b r i x y h1 h2
theorem fms_get (l : List (List Nat)) (i : Nat) (x y : List Nat) (h1 : l[i]? = some x) (h2 : l[i + 1]? = some y) : (fms l)[i + 1]? = some (fmk x y) := by
  cases l with
  | nil => simp at h1
  | cons a r => exact fmt_get a r i x y h1 h2
/-- neighbours unlike -/
def UnlT : List (List Nat) → Prop
  | a :: b :: r => a ≠ b ∧ UnlT (b :: r)
  | _ => True
theorem fmk_ne {a b c : List Nat} (ha : ∀ x ∈ a, Sg x) (hb : ∀ x ∈ b, Sg x) (hc : ∀ x ∈ c, Sg x) (h1 : a ≠ b) (h2 : b ≠ c) : fmk a b ≠ fmk b c := fun e => by
  have l1 := codeAt_le hb (cp a b)
  have l2 := codeAt_le hc (cp b c)
  unfold fmk at e
  have ei : cp a b = cp b c := by omega
  have ec : codeAt b (cp a b) = codeAt c (cp b c) := by omega
  rw [ei] at ec
  exact codeAt_ne hb hc (cp_end b c h2) ec
theorem fmk_ne0 {a b : List Nat} (ha : ∀ x ∈ a, Sg x) (hb : ∀ x ∈ b, Sg x) (h : a ≠ b) : codeAt a 0 ≠ fmk a b := fun e => by
  have l1 := codeAt_le ha 0
  have l2 := codeAt_le hb (cp a b)
  unfold fmk at e
  have e0 : cp a b = 0 := by omega
  have k := cp_end a b h
  rw [e0] at k e
  exact codeAt_ne ha hb k (by omega)
theorem fmt_unl : ∀ (a : List Nat) (l : List (List Nat)), (∀ t ∈ a :: l, ∀ x ∈ t, Sg x) → UnlT (a :: l) → M07.Unl (fmt a l)
  | _, [], _, _ => trivial
  | _, [_], _, _ => trivial
  | a, b :: c :: r, hs, u => ⟨fmk_ne (hs a (by simp)) (hs b (by simp)) (hs c (by simp)) u.1 u.2.1, fmt_unl b (c :: r) (fun t ht => hs t (List.mem_cons_of_mem _ ht)) u.2⟩
theorem fms_unl (l : List (List Nat)) (hs : ∀ t ∈ l, ∀ x ∈ t, Sg x) (u : UnlT l) : M07.Unl (fms l) := by
  match l, hs, u with
  | [], _, _ => trivial
  | [_], _, _ => trivial
  | a :: b :: r, hs, u => exact ⟨fmk_ne0 (hs a (by simp)) (hs b (by simp)) u.1, fmt_unl a (b :: r) hs u⟩
theorem UnlT.get : ∀ {l : List (List Nat)} {i : Nat} {x y : List Nat}, UnlT l → l[i]? = some x → l[i + 1]? = some y → x ≠ y
  | [], _, _, _, _, h, _ => by simp at h
  | [_], i, _, _, _, _, h => by simp at h
  | a :: b :: r, 0, x, y, u, h1, h2 => by
    simp at h1 h2
    subst h1; subst h2; exact u.1
  | a :: b :: r, i + 1, x, y, u, h1, h2 => UnlT.get (l := b :: r) (i := i) u.2 (by simpa using h1) (by simpa using h2)
/-- unlike bases, unlike texts -/
theorem unlT_of {l : Nat} : ∀ {ns : List Nd}, OkAll ns l → Unb ns → UnlT (ns.map cd)
  | [], _, _ => trivial
  | [_], _, _ => trivial
  | a :: b :: r, ok, u => by
    unfold OkAll at ok
    have ok2 := ok.2
    unfold OkAll at ok2
    exact ⟨fun e => u.1 (by rw [cd_inj ok.1 ok2.1 e]), unlT_of (ns := b :: r) ok.2 u.2⟩
theorem cds_sgs (ns : List Nd) : ∀ t ∈ ns.map cd, ∀ x ∈ t, Sg x := fun t ht => by
  obtain ⟨n, _, rfl⟩ := List.mem_map.mp ht
  exact cd_sg n
mutual
theorem tl_txt : ∀ a : Nd, tl (txt a) = cd a
  | .el n => by
    unfold txt cd
    exact tl_num n
  | .run b c => by
    rw [show txt (.run b c) = txt b ++ Str.ofString "^" ++ numT c by rw [txt], cd_run, tl_append, tl_append, tl_txt b, List.append_assoc]
    have e1 : tl (Str.ofString "^") = [94] := by decide +kernel
    have e2 : tl (numT c) = numL c := tl_num c
    rw [e1, e2]
    rfl
  | .blk ps => by
    rw [show txt (.blk ps) = Str.ofString "(" ++ Txt.join " " (txts ps) ++ Str.ofString ")" by rw [txt], show cd (.blk ps) = 40 :: cds ps by rw [cd], tl_append, tl_append, join_eq, tl_join]
    have e1 : tl (Str.ofString "(") = [40] := by decide +kernel
    have e2 : tl (Str.ofString ")") = [41] := by decide +kernel
    have e3 : tl (Str.ofString " ") = [32] := by decide +kernel
    rw [e1, e2, e3, List.append_assoc]
    show 40 :: (joinL [32] ((txts ps).map tl) ++ [41]) = _
    rw [tl_txts ps]
theorem tl_txts : ∀ ps : List Nd, joinL [32] ((txts ps).map tl) ++ [41] = cds ps
  | [] => by
    rw [show txts [] = [] by rw [txts], show cds [] = [41] by rw [cds]]
    rfl
  | [a] => by
    rw [show txts [a] = [txt a] by rw [txts, txts], show cds [a] = cd a ++ cdt [] by rw [cds], show cdt [] = [41] by rw [cdt], ← tl_txt a]
    rfl
  | a :: b :: r => by
    rw [show txts (a :: b :: r) = txt a :: txts (b :: r) by rw [txts], show cds (a :: b :: r) = cd a ++ cdt (b :: r) by rw [cds], show cdt (b :: r) = 32 :: (cd b ++ cdt r) by rw [cdt], ← show cds (b :: r) = cd b ++ cdt r by rw [cds], ← tl_txts (b :: r), ← tl_txt a]
    rw [show txts (b :: r) = txt b :: txts r by rw [txts]]
    show tl (txt a) ++ ([32] ++ joinL [32] ((txt b :: txts r).map tl)) ++ [41] = _
    simp
end
theorem cd_len {a : Nd} : (cd a).length = (txt a).length := by rw [← tl_txt, len_tl]
/-- the sign's place in the program's list of signs -/
theorem sign_at {c : Nat} (h : Sg c) : ∃ rest, Builtin.Str.occurrences "0123456789 ()^" ⟨#[c]⟩ 0 (Str.ofString "0123456789 ()^").length 1 = code c :: rest := by
  unfold Sg at h
  have : c = 48 ∨ c = 49 ∨ c = 50 ∨ c = 51 ∨ c = 52 ∨ c = 53 ∨ c = 54 ∨ c = 55 ∨ c = 56 ∨ c = 57 ∨ c = 32 ∨ c = 40 ∨ c = 41 ∨ c = 94 := by omega
  rcases this with rfl | rfl | rfl | rfl | rfl | rfl | rfl | rfl | rfl | rfl | rfl | rfl | rfl | rfl <;> exact ⟨[], by decide +kernel⟩
/-- .. in the law's list, with one more sign -/
theorem sign_atL {c : Nat} (h : Sg c ∨ c = 36) : ∃ rest, Builtin.Str.occurrences "0123456789 ()^$" ⟨#[c]⟩ 0 (Str.ofString "0123456789 ()^$").length 1 = code c :: rest := by
  unfold Sg at h
  have : c = 48 ∨ c = 49 ∨ c = 50 ∨ c = 51 ∨ c = 52 ∨ c = 53 ∨ c = 54 ∨ c = 55 ∨ c = 56 ∨ c = 57 ∨ c = 32 ∨ c = 40 ∨ c = 41 ∨ c = 94 ∨ c = 36 := by omega
  rcases this with rfl | rfl | rfl | rfl | rfl | rfl | rfl | rfl | rfl | rfl | rfl | rfl | rfl | rfl | rfl <;> exact ⟨[], by decide +kernel⟩
end Loc
namespace Loc
open PySem PySem.Spec PyProof.Rows L2 TL
theorem cp_stop : ∀ (a b : List Nat) (x y : Nat), a[cp a b]? = some x → b[cp a b]? = some y → x ≠ y
  | [], _, x, y, h, _ => by simp at h
  | _ :: _, [], x, y, _, h => by simp at h
  | a :: r, b :: q, x, y, h, k => by
    unfold cp at h k
    split at h
    · rename_i e
      rw [if_pos e] at k
      exact cp_stop r q x y (by simpa using h) (by simpa using k)
    · rename_i e
      rw [if_neg e] at k
      have e1 : a = x := by simpa using h
      have e2 : b = y := by simpa using k
      rw [← e1, ← e2]
      exact e
abbrev vT (ns : List Nd) : List V := ns.map fun n => V.str (txt n)
theorem vT_get {ns : List Nd} {i : Nat} {n : Nd} (h : ns[i]? = some n) : (vT ns)[i]? = some (.str (txt n)) := by
  rw [List.getElem?_map, h]
  rfl
theorem one_sign {c d : Nat} : decide (V.str ⟨#[c]⟩ = V.str ⟨#[d]⟩) = decide (c = d) := by
  by_cases h : c = d
  · rw [h, decide_eq_true rfl, decide_eq_true rfl]
  · rw [decide_eq_false h, decide_eq_false (fun e => h (by
      injection e with e
      injection e with e
      have := congrArg (fun a => a.toList) e
      simpa using this))]
theorem len_cd {a : Nd} {l : Nat} (h : Ok a l) (hw : wide l ≤ 1000000) : (txt a).length ≤ 1000000 ∧ (txt a).length ≤ sizeLine := by
  have := txt_len a l h
  have : (txt a).length ≤ 1000000 := by split at this <;> omega
  exact ⟨this, Nat.le_trans this (by decide)⟩
end Loc

set_option Elab.async false
set_option linter.all false
set_option maxRecDepth 100000
namespace Loc
open PySem PySem.Spec PyProof.Rows L2
/-! ### list(range(a, b, c)); for x in r, r a range that is at hand -/
section
variable {X : Cx} {tg : Expr}
def tLstRg3 (ta : TA) : TE := fun σ H Q => ta σ H fun vs H1 => ∃ (i j c : Int) (n : Nat), vs = [.int i, .int j, .int c] ∧ RgC i j c n ∧ n ≤ 2 ^ 24 ∧ ∀ q, H1 q = none → Q (.ref q) (upd H1 q (.lst ((List.range n).map fun k => V.int (i + (k : Nat) * c))))
theorem vals_rgC {a c : Int} {n : Nat} {acc : Array Value} (h : ItemsOf (fun i v => ∃ t, v = .int (a + i * c) t) acc n) : Vals ((List.range n).map fun k => V.int (a + (k : Nat) * c)) acc.toList := by
  have e : acc.toList.length = n := by rw [Array.length_toList]; exact h.1
  rw [← e]
  refine vals_of_get acc.toList (fun k => V.int (a + (k : Nat) * c)) fun j u hj => ?_
  obtain ⟨t, rfl⟩ := h.2 j u (by rw [← hj, Array.getElem?_toList])
  exact ⟨t, rfl⟩
theorem pe_listRg3 {a b c : Expr} {ta : TA} {p p2 pos pos2 : Pos} (hc : X.calm = true) (hg : Gl X "list") (hm : X.mg "list" = none) (hg2 : Gl X "range") (hm2 : X.mg "range" = none) (ha : PA X [a, b, c] ta)
    (na : starEach [(.Call (.Name "range" p2) [a, b, c] [] pos2)] X.env = (false, eval (.Call (.Name "range" p2) [a, b, c] [] pos2) X.env) :: starEach [] X.env := by rfl)
    (hs : starEach [a, b, c] X.env = (false, eval a X.env) :: starEach [b, c] X.env := by rfl) (hpl : (backTo pos2 (starEach [b, c] X.env)).any (·.1) = false := by rfl) :
    PE X (.Call (.Name "list" p) [.Call (.Name "range" p2) [a, b, c] [] pos2] [] pos) (tLstRg3 ta) := by
  refine ⟨fun pins s σ H Q I h => ?_⟩
  have inner : wpAny (model X.prog X.w) X.A (eval (.Call (.Name "range" p2) [a, b, c] [] pos2) X.env) (fun x s' => ∃ r i j k n t u v H', x = .ref r ∧ IsRange s'.heap r i j k t u v ∧ Inv X pins σ H' s' ∧ RgC i j k n ∧ n ≤ 2 ^ 24 ∧
      ∀ q, H' q = none → Q (.ref q) (upd H' q (.lst ((List.range n).map fun z => V.int (i + (z : Nat) * k))))) X.xe s := by
    refine Call_ (ld_blt I hg2 hm2 boot_range (PyProof.Rows.callWith_type1 (thn (ha.run pos2 pins s σ H _ I h) fun us s1 ⟨vs, H1, I1, r1, q1⟩ => ?_) hs hpl))
    obtain ⟨i, j, k, n, e, ⟨c0, c1, c2, c3⟩, hn, q⟩ := q1
    subst e
    cases r1 with
    | cons r rr =>
      cases rr with
      | cons r' rr =>
        cases rr with
        | cons r'' rr =>
          cases rr
          obtain ⟨t, rfl⟩ := r
          obtain ⟨t', rfl⟩ := r'
          obtain ⟨t'', rfl⟩ := r''
          refine call_range_3 c0 ?_ (.inl (PyProof.noPylong_small c1))
          exact ⟨_, i, j, k, n, _, _, _, H1, rfl, IsRange.new _ _ _ _ _ _ _, I1.kept (t' := s1.toks) fun b o e => Heap.get?_push_of_some _ e, ⟨c0, c1, c2, c3⟩, hn, q⟩
  refine Call_ (ld_blt I hg hm boot_list (PyProof.Rows.callWith_type1 (args_cons (thn inner fun x s1 ⟨r, i, j, k, n, t, u, v, H1, ex, hr, I1, ok, hn, q⟩ => args_nil ?_) na) na))
  subst ex
  obtain ⟨c0, c1, c2, c3⟩ := ok
  refine call_list_range (n := n) (I1.ok.hd hc) hr c2 c3 hn fun h' tk acc c' hk e' hi => ?_
  refine ⟨.ref s1.heap.objs.size, upd H1 s1.heap.objs.size (.lst ((List.range n).map fun z => V.int (i + (z : Nat) * k))), I1.laid hk (Nat.le_refl _) (show ObjOk X.prog X.w _ _ _ (.lst _) from ⟨?_, acc.toList, c', vals_rgC hi, ?_⟩), rfl, q _ (I1.hok.fresh (Nat.le_refl _))⟩
  · rw [List.length_map, List.length_range, sizeLine_eq]; omega
  · rw [Array.toArray_toList]; exact e'
/-- a range that is at hand -/
def iRngV (te : TE) : TI := fun σ H R => te σ H fun x H1 => ∃ r lo hi, x = .ref r ∧ H1 r = some (.rng lo hi) ∧ (-(2 ^ 62) ≤ lo ∧ lo < 2 ^ 62 ∧ -(2 ^ 62) ≤ hi ∧ hi < 2 ^ 62) ∧ R (Itr lo (hi - lo).toNat) H1
theorem pi_rngV {e : Expr} {te : TE} (he : PE X e te) : PI X tg e (iRngV te) := by
  refine ⟨fun pins s σ H R I h => ?_⟩
  refine thn (he.run pins s σ H _ I h) fun v s1 ⟨x, H1, I1, r1, q1⟩ => ?_
  obtain ⟨r, lo, hi, rfl, hr, ⟨h1, h2, h3, h4⟩, q⟩ := q1
  cases r1
  obtain ⟨t, u, v, eo⟩ := I1.hok r _ hr
  refine wpAny_pyIter_range (t := t) (u := u) (v := v) eo (small_one h1 h2 h3 h4) ?_
  refine ⟨s1.heap.objs.size, [s1.heap.objs.size], _, _, H1, rfl, I1.kept (t' := s1.toks) fun b o e => Heap.get?_push_of_some _ e, turn_range _ lo (hi - lo).toNat, ?_, fun b hb => ?_, q⟩
  · have e1 : lo + ((0 : Nat) : Int) * 1 = lo := by simp
    have e2 : (((hi - lo).toNat : Nat) : Int) - ((0 : Nat) : Int) = Builtin.Range.rangeSize lo hi 1 := by rw [rangeSize_one]; split <;> omega
    show IsRangeIter _ _ (lo + ((0 : Nat) : Int) * 1) ((((hi - lo).toNat : Nat) : Int) - ((0 : Nat) : Int)) 1
    rw [e1, e2]
    exact Heap.get?_push_size _ rfl
  · have e : b = s1.heap.objs.size := by simpa using hb
    subst e
    exact I1.fpOk (Nat.le_refl _) (I1.hok.fresh (Nat.le_refl _))
end
theorem rgC_two {b d : Nat} (hd : 2 ≤ d) (h : b + d < 2 ^ 30) : RgC (b : Int) (((b + d : Nat) : Int) - 1) 2 (d / 2) := by
  have e : Builtin.Range.rangeSize (b : Int) (((b + d : Nat) : Int) - 1) 2 = ((d / 2 : Nat) : Int) := by
    unfold Builtin.Range.rangeSize
    rw [if_pos (by decide), if_pos (by omega)]
    omega
  refine ⟨by decide, by decide, ?_, e⟩
  unfold Builtin.Range.small
  rw [e]
  simp only [Builtin.Range.rangeFitsLong, Bool.and_eq_true, Bool.or_eq_true, decide_eq_true_eq, beq_iff_eq, show (2 : Int) > 0 by decide, if_true]
  omega
end Loc

set_option linter.all false
/-! pieces of a row: peaks, stretches, cuts -/
namespace M10
def pk (ms : List Nat) (i : Nat) : Bool := match ms[i - 1]?, ms[i]?, ms[i + 1]? with
  | some a, some b, some c => decide (a < b) && decide (c < b)
  | _, _, _ => false
def pks (ms : List Nat) : List Nat := (List.range' 2 (ms.length - 3)).filter (pk ms)
theorem pk_no {ms : List Nat} {i : Nat} (h : pk ms i = true) : pk ms (i + 1) = false := by
  unfold pk at h ⊢
  rw [Nat.add_sub_cancel]
  cases h0 : ms[i - 1]? with
  | none => rw [h0] at h; exact absurd h (by simp)
  | some a =>
    cases h1 : ms[i]? with
    | none => simp [h0, h1] at h
    | some b =>
      cases h2 : ms[i + 1]? with
      | none => simp
      | some c =>
        rw [h0, h1, h2] at h
        simp only [Bool.and_eq_true, decide_eq_true_eq] at h
        cases h3 : ms[i + 1 + 1]? with
        | none => simp
        | some d =>
          simp only [Bool.and_eq_false_iff, decide_eq_false_iff_not]
          omega
def Gap (n : Nat) : Nat → List Nat → Prop
  | b, [] => b + 2 ≤ n
  | b, t :: r => b + 2 ≤ t ∧ Gap n t r
theorem gap_filter {p : Nat → Bool} (hp : ∀ i, p i = true → p (i + 1) = false) (n : Nat) : ∀ k s b, (b + 2 ≤ s ∨ (b + 1 ≤ s ∧ p s = false)) → s + k + 1 ≤ n → b + 2 ≤ n → Gap n b ((List.range' s k).filter p)
  | 0, s, b, _, _, h => h
  | k + 1, s, b, h1, h2, h3 => by
    rw [List.range'_succ]
    cases e : p s with
    | true =>
      rw [List.filter_cons_of_pos e]
      refine ⟨?_, gap_filter hp n k (s + 1) s (.inr ⟨Nat.le_refl _, hp s e⟩) (by omega) (by omega)⟩
      rcases h1 with h1 | ⟨_, h1⟩
      · exact h1
      · rw [e] at h1; cases h1
    | false =>
      rw [List.filter_cons_of_neg (by rw [e]; simp)]
      exact gap_filter hp n k (s + 1) b (.inl (by rcases h1 with h1 | h1 <;> omega)) (by omega) h3
theorem pks_gap {ms : List Nat} (h : 2 ≤ ms.length) : Gap ms.length 0 (pks ms) := by
  unfold pks
  by_cases z : ms.length ≤ 3
  · rw [show ms.length - 3 = 0 by omega]
    exact h
  · exact gap_filter (p := pk ms) (fun i h => pk_no h) ms.length (ms.length - 3) 2 0 (.inl (Nat.le_refl _)) (by omega) h
/-- the pieces of the stretch of d nodes from b on -/
def str : Nat → Nat → List (Nat × Nat)
  | d + 4, b => (b, b + 2) :: str (d + 2) (b + 2)
  | d, b => [(b, b + d)]
def stz (z : Nat × Nat) : List (Nat × Nat) := str (z.2 - z.1) z.1
def sts (n : Nat) : Nat → List Nat → List (Nat × Nat)
  | b, [] => [(b, n)]
  | b, t :: r => (b, t) :: sts n t r
def pcs (n : Nat) (tops : List Nat) : List (Nat × Nat) := (sts n 0 tops).flatMap stz
theorem sts_fst (n : Nat) : ∀ b tops, (sts n b tops).map (·.1) = b :: tops
  | b, [] => rfl
  | b, t :: r => by rw [sts, List.map_cons, sts_fst n t r]
theorem sts_snd (n : Nat) : ∀ b tops, (sts n b tops).map (·.2) = tops ++ [n]
  | b, [] => rfl
  | b, t :: r => by rw [sts, List.map_cons, sts_snd n t r]; rfl
theorem sts_gap {n : Nat} : ∀ {b : Nat} {tops : List Nat}, Gap n b tops → ∀ z ∈ sts n b tops, z.1 + 2 ≤ z.2 ∧ z.2 ≤ n
  | b, [], h, z, hz => by
    have : z = (b, n) := by simpa [sts] using hz
    rw [this]
    exact ⟨h, Nat.le_refl _⟩
  | b, t :: r, h, z, hz => by
    have le : ∀ {b : Nat} {r : List Nat}, Gap n b r → b ≤ n := by
      intro b r
      induction r generalizing b with
      | nil => intro h; have : b + 2 ≤ n := h; omega
      | cons t r ih => intro h; have := ih h.2; have := h.1; omega
    rcases List.mem_cons.mp hz with e | hz
    · rw [e]
      exact ⟨h.1, le h.2⟩
    · exact sts_gap h.2 z hz
def Cont : Nat → Nat → List (Nat × Nat) → Prop
  | b, n, [] => b = n
  | b, n, z :: r => z.1 = b ∧ b + 2 ≤ z.2 ∧ z.2 ≤ b + 3 ∧ Cont z.2 n r
theorem str_cont : ∀ d b, 2 ≤ d → Cont b (b + d) (str d b)
  | 0, _, h => by omega
  | 1, _, h => by omega
  | 2, b, _ => ⟨rfl, Nat.le_refl _, by show b + 2 ≤ b + 3; omega, rfl⟩
  | 3, b, _ => ⟨rfl, by show b + 2 ≤ b + 3; omega, Nat.le_refl _, rfl⟩
  | d + 4, b, _ => by
    refine ⟨rfl, Nat.le_refl _, by show b + 2 ≤ b + 3; omega, ?_⟩
    have := str_cont (d + 2) (b + 2) (by omega)
    rw [show b + (d + 4) = b + 2 + (d + 2) by omega]
    exact this
theorem Cont.app : ∀ {xs ys : List (Nat × Nat)} {b t n : Nat}, Cont b t xs → Cont t n ys → Cont b n (xs ++ ys)
  | [], _, b, t, n, h, k => by have h : b = t := h; rw [h]; exact k
  | z :: r, ys, b, t, n, h, k => ⟨h.1, h.2.1, h.2.2.1, Cont.app h.2.2.2 k⟩
theorem sts_cont {n : Nat} : ∀ {b : Nat} {tops : List Nat}, Gap n b tops → Cont b n ((sts n b tops).flatMap stz)
  | b, [], h => by
    have h : b + 2 ≤ n := h
    show Cont b n (stz (b, n) ++ [])
    rw [List.append_nil]
    have := str_cont (n - b) b (by omega)
    rw [show b + (n - b) = n by omega] at this
    exact this
  | b, t :: r, h => by
    rw [sts, List.flatMap_cons]
    have := str_cont (t - b) b (by have := h.1; omega)
    rw [show b + (t - b) = t by have := h.1; omega] at this
    exact Cont.app this (sts_cont h.2)
theorem Cont.ends : ∀ {r : List (Nat × Nat)} {z : Nat × Nat} {b n : Nat}, Cont b n (z :: r) → r.map (·.1) ++ [n] = (z :: r).map (·.2)
  | [], z, b, n, h => by have := h.2.2.2; have this : z.2 = n := this; simp [this]
  | y :: r, z, b, n, h => by
    have := Cont.ends (r := r) (z := y) h.2.2.2
    have e : y.1 = z.2 := h.2.2.2.1
    rw [List.map_cons, List.cons_append, this, e]
    rfl
theorem Cont.bnd : ∀ {r : List (Nat × Nat)} {b n : Nat}, Cont b n r → b ≤ n ∧ ∀ z ∈ r, z.1 + 2 ≤ z.2 ∧ z.2 ≤ z.1 + 3 ∧ z.2 ≤ n
  | [], b, n, h => ⟨Nat.le_of_eq h, fun z hz => nomatch hz⟩
  | y :: r, b, n, h => by
    have k := Cont.bnd h.2.2.2
    have := h.1
    have := h.2.1
    have := h.2.2.1
    refine ⟨by omega, fun z hz => ?_⟩
    rcases List.mem_cons.mp hz with e | hz
    · rw [e]; omega
    · exact k.2 z hz
theorem Cont.len : ∀ {r : List (Nat × Nat)} {b n : Nat}, Cont b n r → b + 2 * r.length ≤ n
  | [], b, n, h => Nat.le_of_eq h
  | y :: r, b, n, h => by
    have k := Cont.len h.2.2.2
    have := h.2.1
    rw [List.length_cons]
    omega
theorem str_fst : ∀ d b, 2 ≤ d → (str d b).map (·.1) = (List.range (d / 2)).map fun k => b + k * 2
  | 0, _, h => by omega
  | 1, _, h => by omega
  | 2, b, _ => rfl
  | 3, b, _ => rfl
  | d + 4, b, _ => by
    have := str_fst (d + 2) (b + 2) (by omega)
    rw [str, List.map_cons, this, show (d + 4) / 2 = (d + 2) / 2 + 1 by omega, List.range_succ_eq_map, List.map_cons, List.map_map]
    have e : (List.map (fun k => b + 2 + k * 2) (List.range ((d + 2) / 2))) = List.map ((fun k => b + k * 2) ∘ Nat.succ) (List.range ((d + 2) / 2)) := List.map_congr_left fun k _ => by
      show b + 2 + k * 2 = b + (k + 1) * 2
      omega
    rw [e]
    simp
end M10

set_option Elab.async false
set_option linter.all false
set_option maxRecDepth 100000
namespace Loc
open PySem PySem.Spec PyProof.Rows L2
/-! ### l.extend(t), t a tuple -/
theorem ext_tup (l b : Addr) (xs ys : Array Value) (n n2 : Nat) (dd : Option Addr) (sl : Array (Option Value)) (h1 : ¬ (!xs.isEmpty && Builtin.List.listTooLong (xs.size + ys.size)) = true) (h2 : xs.size ≤ sizeLine) (h3 : xs.size + ys.size ≤ sizeLine + 1) :
    Meets (Builtin.«list.extend» ⟨[.ref l, .ref b], []⟩) (fun _ R s => s.heap.get? l = some { cls := .type "list", dict := none, data := .seq xs n, slots := #[] } ∧ s.heap.get? b = some { cls := .type "tuple", dict := dd, data := .seq ys n2, slots := sl } ∧
      R (.ok (.ret Value.none)) { s with heap := s.heap.update l (Obj.mapSeq fun x => x ++ ys), toks := s.toks }) := .of_wp fun prog w A R s h => by
  obtain ⟨hp, g, d, tk, os⟩ := s
  obtain ⟨hl, hb, h⟩ := h
  have f2 := sub_tuple_tuple
  have f3 := sub_list_list
  have f4 := sub_tuple_list
  have f5 := sub_list_tuple
  have z : (xs ++ ys).size ≤ sizeLine + 1 := by rw [Array.size_append]; exact h3
  wp_walk using (wpAny_updateSeq hl rfl (hz := h2) (_hz' := z)), wpAny_loadPart' hl, wpAny_loadPart' hb
  exact ⟨_, rfl, h⟩
section
variable {X : Cx}
def rExtendT (K : PySem.W.Frag) : V → List V → Hp → VK → Prop := fun x vs H Q => ∃ l b xs zs, x = .ref l ∧ vs = [.ref b] ∧ H l = some (.lst xs) ∧ SqT K H b zs ∧ xs.length + zs.length ≤ sizeLine ∧ Q .non (upd H l (.lst (xs ++ zs)))
theorem mt_extendT : MtM X "list.extend" (rExtendT X.K) := by
  intro pins s σ H x vs v us Q I rx rv h
  obtain ⟨l, b, xs, zs, rfl, rfl, hH, hB, hz, q⟩ := h
  cases rx
  obtain ⟨u, rfl, ru⟩ := rv.one
  cases ru
  obtain ⟨z, its, n, r, hl, e⟩ := I.lstM hH
  obtain ⟨its2, r2, p2, z2⟩ := I.tuple hB
  have hl2 := r2.length
  have hsz : its.toArray.size + its2.toArray.size ≤ sizeLine := by rw [List.size_toArray, List.size_toArray]; omega
  have hlong : ¬ (!its.toArray.isEmpty && Builtin.List.listTooLong (its.toArray.size + its2.toArray.size)) = true := by
    rw [notLongL hsz, Bool.and_false]
    exact Bool.false_ne_true
  obtain ⟨⟨cls, dd, data, sl⟩, ho, hc, n2, hd⟩ := id p2
  simp only at hc hd
  subst hc hd
  refine call_meets F.slot_list_extend ⟨_, e, rfl⟩ F.entry_list_extend (F.args_list_extend_2 _ _)
    (ext_tup l b its.toArray its2.toArray n n2 dd sl hlong (by rw [List.size_toArray]; omega) (by omega)) ⟨e, ho, ?_⟩
  refine ⟨.non, _, I.lset (its' := its ++ its2) hH e (by simp) (r.append r2) ?_, rfl, q⟩
  rw [List.length_append]
  omega
end
end Loc

set_option Elab.async false
set_option linter.all false
set_option maxRecDepth 100000
set_option maxHeartbeats 4000000
namespace Loc
open PySem PySem.Spec PyProof.Rows L2
theorem tuple_mul1 (l : Addr) (items : Array Value) (n : Nat) (dd : Option Addr) (sl : Array (Option Value)) (u : Tok) :
    Meets (Builtin.«tuple.__mul__» ⟨[.ref l, .int 1 u], []⟩) (fun _ R s => s.heap.get? l = some { cls := .type "tuple", dict := dd, data := .seq items n, slots := sl } ∧ R (.ok (.ret (Value.ref l))) s) :=
  .of_wp fun prog w A R s h => by
    obtain ⟨hp, g, d, tk, os⟩ := s
    obtain ⟨hl, h⟩ := h
    have f1 := AutoSeq1.idx_int
    wp_walk using wpAny_loadPart' hl
    exact ⟨_, rfl, h⟩
def rRepT1 (K : PySem.W.Frag) : R2 := fun x y H Q => ∃ l k xs, x = .ref l ∧ y = .int k ∧ SqT K H l xs ∧ xs ≠ [] ∧ 1 ≤ k ∧ k ≤ 1000 ∧ xs.length ≤ 1000 ∧ ∀ H' p, Same H H' → SqT K H' p (List.replicate k.toNat xs).flatten → Q (.ref p) H'
theorem op_repT1 {X : Cx} : OpR X (binaryOp .Mult) (rRepT1 X.K) := by
  intro pins s σ H x y v u Q I rx ry h
  obtain ⟨l, k, xs, rfl, rfl, hT, hne, h1, h2, hz, q⟩ := h
  by_cases k1 : k = 1
  · subst k1
    cases rx
    obtain ⟨t, rfl⟩ := ry
    obtain ⟨its, r, ⟨⟨cls, dd, data, sl⟩, ho, hc, n, hd⟩, hs⟩ := I.tuple hT
    simp only at hc hd
    subst hc hd
    refine wpAny_binaryOp_repeat_ref (T := "tuple") (U := "int") (by decide) ⟨_, ho, rfl⟩ (fun s' => typeIs_int s' 1 t) noFill_tuple_mul PySem.F.fills_int_mul PySem.F.slot_int_rmul repeat_tuple PySem.F.slot_int_index.lookup
      (call_meets PySem.F.slot_int_rmul (typeIs_int s 1 t) PySem.F.entry_int_rmul (PySem.F.args_int_rmul_2 _ _) (int_rmul_tuple 1 t l its.toArray n dd sl)
        ⟨ho, rfl, ⟨_, ho, rfl⟩, call_meets PySem.F.slot_tuple_mul ⟨_, ho, rfl⟩ PySem.F.entry_tuple_mul (PySem.F.args_tuple_mul_2 _ _) (tuple_mul1 l its.toArray n dd sl t) ⟨ho, ?_⟩⟩)
    refine ⟨.ref l, H, I, rfl, q H l (Same.refl H) ?_⟩
    rw [show (1 : Int).toNat = 1 from rfl]
    simpa using hT
  · exact op_repT pins s σ H _ _ v u Q I rx ry ⟨l, k, xs, rfl, rfl, hT, hne, by omega, h2, hz, fun p hp => q _ p (sameN hp) (.inl (.inl upd_same))⟩
end Loc

set_option Elab.async false
set_option linter.all false
set_option maxRecDepth 100000
set_option maxHeartbeats 4000000
namespace Loc
open PySem PySem.Spec PyProof.Rows L2
open AutoSeq1 (wpAny_loadPart')
/-! ### enumerate(t), t a tuple -/
theorem meets_enum_newT (l : Addr) (items : Array Value) (n : Nat) (dct : Option Addr) (sl : Array (Option Value)) :
    Meets (Builtin.«enumerate.__new__» ⟨[.type "enumerate", .ref l], []⟩) (fun _ R s => s.heap.get? l = some { cls := .type "tuple", dict := dct, data := .seq items n, slots := sl } ∧
      R (.ok (.ret (.ref (s.heap.push { cls := .type "tuple_iterator", data := .fields #[.ref l, .int 0 0] }).objs.size)))
        { s with heap := (s.heap.push { cls := .type "tuple_iterator", data := .fields #[.ref l, .int 0 0] }).push { cls := .type "enumerate", data := .fields #[.none, .bool false, .ref s.heap.objs.size, rawInt 0, .none, .none] } }) :=
  .of_wp fun prog w A R s h => by
    obtain ⟨hp, g, d, tk, os⟩ := s
    obtain ⟨hl, h⟩ := h
    have hsub := sub_enumerate
    have hL : Heap.IsTuple (Shared.heap ⟨hp, g, d, tk, os⟩) l items := ⟨_, hl, rfl, n, rfl⟩
    wp_walk using wpAny_loadPart' hl
    refine wpAny_stack_any fun st => wpAny_pure ?_
    split
    · rename_i c _ _ _ _ _
      cases (c == Value.type "enumerate")
      · wp_walk using wpAny_loadPart' hl, wpAny_pyIter_tuple hL
        exact ⟨_, rfl, h⟩
      · wp_walk using wpAny_loadPart' hl, wpAny_pyIter_tuple hL
        exact ⟨_, rfl, h⟩
    · wp_walk using wpAny_loadPart' hl, wpAny_pyIter_tuple hL
      exact ⟨_, rfl, h⟩
section
variable {prog : Program} {w : World} {A : Around} {E : Value → Shared → Prop} {s : Shared}
theorem call_enum_tup {l : Addr} {items : Array Value} {Q : Value → Shared → Prop} (hL : s.heap.IsTuple l items)
    (h : ∀ h', IsEnum h' (s.heap.objs.size + 1) s.heap.objs.size 0 .none → h'.IsTupleIter s.heap.objs.size l 0 → h'.objs.size = s.heap.objs.size + 2 →
      (∀ b o, s.heap.get? b = some o → h'.get? b = some o) → Q (.ref (s.heap.objs.size + 1)) { s with heap := h' }) :
    wpAny (model prog w) A (call (.type "enumerate") [.ref l]) Q E s := by
  obtain ⟨⟨c, dct, dt, sl⟩, hl, hc, n, hd⟩ := hL
  replace hc : c = .type "tuple" := hc
  replace hd : dt = .seq items n := hd
  subst hc hd
  refine callType_new PySem.F.called_enumerate (by decide) (PySem.F.typeCall_enumerate_1 _) (PySem.F.newCall_enumerate_1 _) (fun obj => PySem.F.args_object_init_2 obj _) PySem.F.entry_enumerate_new
    (meets_enum_newT l items n dct sl) ⟨hl, ?_⟩
  have hz : (s.heap.push { cls := .type "tuple_iterator", data := .fields #[.ref l, .int 0 0] }).objs.size = s.heap.objs.size + 1 := Heap.size_push ..
  show _ ∧ _
  rw [hz]
  have he : IsEnum ((s.heap.push { cls := .type "tuple_iterator", data := .fields #[.ref l, .int 0 0] }).push
      { cls := .type "enumerate", data := .fields #[.none, .bool false, .ref s.heap.objs.size, rawInt 0, .none, .none] }) (s.heap.objs.size + 1) s.heap.objs.size 0 .none := by
    have := Heap.get?_push_size (s.heap.push { cls := .type "tuple_iterator", data := .fields #[.ref l, .int 0 0] })
      (o := { cls := .type "enumerate", data := .fields #[.none, .bool false, .ref s.heap.objs.size, rawInt 0, .none, .none] }) rfl
    rw [hz] at this; exact this
  refine ⟨⟨_, he, rfl⟩, h _ he ⟨_, Heap.get?_push_of_some _ (Heap.get?_push_size _ rfl), rfl, rfl⟩ (by rw [Heap.size_push, hz]) fun b o x => Heap.get?_push_of_some _ (Heap.get?_push_of_some _ x)⟩
end
theorem enumT_end {prog : Program} {w : World} {A : Around} {E : Value → Shared → Prop} {s : Shared} {e it l : Addr} {i : Nat} {items : Array Value} {old : Value} {Q : Option Value → Shared → Prop} (hh : A.handled = none)
    (he : IsEnum s.heap e it i old) (hit : s.heap.IsTupleIter it l i) (hl : s.heap.IsTuple l items) (hx : items[i]? = none)
    (hQ : ∀ h', Heap.ExtBut it s.heap h' → Q none { s with heap := h' }) : wpAny (model prog w) A (pyNext (.ref e)) Q E s := by
  have hT : s.TypeIs (.ref e) "enumerate" := ⟨_, he, rfl⟩
  unfold pyNext
  refine wpAny_bind (wpAny_attempt (wpAny_callSpecial?_slot (name := Str.ofString "__next__") hT PySem.F.slot_enumerate_next
    (wpAny_call_entry PySem.F.slot_enumerate_next hT PySem.F.entry_enumerate_next ?_ (PySem.F.args_enumerate_next_1 _))))
  show wpAny _ _ (field (.ref e) 2 >>= _) _ _ _
  refine wpAny_bind (wpAny_field he rfl (x := .ref it) rfl ?_)
  refine wpAny_bind (wpAny_nextOf_tuple_end hh hit hl hx fun h' x he' hx' => ?_)
  obtain ⟨o, ho, hc⟩ := hx'
  refine wpAny_bind (wpAny_isInstance (T := "StopIteration") (b := true) ⟨o, ho, hc⟩ isSubtype_stop ?_)
  exact wpAny_pure (hQ _ he')
/-- the tuple at a, each item in a new pair -/
def IteT (K : PySem.W.Frag) (a : Addr) : It :=
  ⟨fun i H => ∃ (xs : List V) (x : V), SqT K H a xs ∧ xs[i]? = some x, fun i H v H' => ∃ T x, v = .ref T ∧ H T = none ∧ H' = upd H T (.tup [.int (i : Nat), x]) ∧ ∀ xs, SqT K H a xs → xs[i]? = some x, fun i H => ∃ xs : List V, SqT K H a xs ∧ xs.length ≤ i⟩
theorem turn_enumT {P : Program} {w : World} {K : PySem.W.Frag} {elts : List Expr} {kk : Nat} {tpos : Pos} (a e it : Addr) :
    Turn P w K (.Tuple elts kk tpos) (IteT K a) [e, it] e (fun i h => (∃ old, IsEnum h e it ((i : Nat) : Int) old) ∧ h.IsTupleIter it a i ∧ e ≠ it ∧ a ≠ it ∧ a ≠ e) where
  mem := by simp
  obj := fun i h st b hb => by
    obtain ⟨⟨old, he⟩, ⟨o, ho, hc, hd⟩, _⟩ := st
    have e' : b = e ∨ b = it := by simpa using hb
    rcases e' with z | z
    · rw [z]; exact ⟨_, he, fun v q => nomatch q⟩
    · rw [z]; exact ⟨o, ho, fun v q => by rw [hd] at q; cases q⟩
  keep := fun i h h' st k => let ⟨⟨old, he⟩, hi, hne⟩ := st; ⟨⟨old, k e (by simp) _ he⟩, hi.at fun o q => k it (by simp) o q, hne⟩
  item := by
    intro X hP hw hK hc i pins s σ H E I hf st hg
    subst hP hw hK
    obtain ⟨⟨old, he⟩, hit, hne, hai, hae⟩ := st
    obtain ⟨xs, x, hq, hx⟩ := hg
    obtain ⟨its, rv, p, hz⟩ := I.tuple hq
    obtain ⟨u, hu, ru⟩ := rv.get hx
    have hel : e < s.heap.objs.size := Heap.lt_size he
    have hil : it < s.heap.objs.size := by obtain ⟨_, q, _⟩ := hit; exact Heap.lt_size q
    have pT : s.heap.IsTuple a its.toArray := p
    have hlt : i < its.toArray.size := by
      have := (List.getElem?_eq_some_iff.mp hu).1
      simpa using this
    refine wpAny_pyNext_enum_itemD (Draws.tuple (A := X.A.in1) (by first | exact I.ok.hd hc | exact (I.ok.hd hc)) it a hai its.toArray) he ⟨hit, pT⟩ hlt hne (by simp [hne, hae.symm]) fun x' h' tk hx' ho hst' hT hsz hk => ?_
    have ex : x' = u := by
      have : its.toArray[i]? = some u := by simpa using hu
      exact Option.some.inj (hx'.symm.trans this)
    subst ex
    refine ⟨_, rfl, wpAny_letOwnedTupleGo_enum (s := { s with heap := h', toks := tk + 1 }) ho fun h'' he' sb => ?_⟩
    have hT2 : h''.get? s.heap.objs.size = some { cls := .type "tuple", data := .seq #[.int i tk, x'] } := (sb.2 _ (Nat.ne_of_gt hel)).trans hT
    have new : ObjOk X.prog X.w (upd H s.heap.objs.size (.tup [.int (i : Nat), x])) h'' s.heap.objs.size (.tup [.int (i : Nat), x]) :=
      ⟨by show 2 ≤ sizeLine; decide, [.int i tk, x'], .cons ⟨_, rfl⟩ (.cons ru .nil), ⟨_, hT2, rfl, _, rfl⟩⟩
    have I1 : Inv X pins σ (upd H s.heap.objs.size (.tup [.int (i : Nat), x])) { s with heap := h'', toks := tk + 1 } :=
      I.turnedNew (ch := [e, it]) (fun b ob hb q => (sb.2 b (fun z => hb (by simp [z]))).trans (hk b ob (fun z => hb (by simp [z])) (fun z => hb (by simp [z])) q)) hf (Nat.le_refl _) new
    refine ⟨.ref s.heap.objs.size, _, I1, rfl, ⟨_, x, rfl, I.hok.fresh (Nat.le_refl _), rfl, fun ys hy => by rw [I.tuple_inj hy hq]; exact hx⟩, ⟨⟨x', ?_⟩, hst'.1.at fun o q => (sb.2 it (Ne.symm hne)).trans q, hne, hai, hae⟩, fun b hb => ?_⟩
    · have e1 : ((i + 1 : Nat) : Int) = (i : Int) + 1 := by omega
      rw [e1]; exact he'
    · have hb' : b < s.heap.objs.size := by
        have e' : b = e ∨ b = it := by simpa using hb
        rcases e' with z | z
        · rw [z]; exact hel
        · rw [z]; exact hil
      rw [upd_ne (Nat.ne_of_lt hb')]
      exact (hf b hb).1
  done := by
    intro X hP hw hK hc i pins s σ H E I hf st hg
    subst hP hw hK
    obtain ⟨⟨old, he⟩, hit, hne, hai, hae⟩ := st
    obtain ⟨xs, hq, hx⟩ := hg
    obtain ⟨its, rv, p, hz⟩ := I.tuple hq
    obtain ⟨f0, f1, f2, f3, f4, f5⟩ := hf it (by simp)
    have hl := rv.length
    have pT : s.heap.IsTuple a its.toArray := p
    exact enumT_end (I.ok.hd hc) he hit pT (by simp; omega) fun h' eb => ⟨rfl, I.turned (t' := s.toks) (fun b o hb q => eb b o hb q) f0 f1 f3 f4 f5⟩
  self := fun A i s Q E st h => let ⟨⟨_, he⟩, _⟩ := st; wpAny_pyIter_enum he h
def iEnumT (K : PySem.W.Frag) (ta : TA) : TI := fun σ H R => ta σ H fun vs H1 => ∃ a xs, vs = [.ref a] ∧ SqT K H1 a xs ∧ R (IteT K a) H1
theorem pi_enumT {X : Cx} {e : Expr} {ta : TA} {p pos tpos : Pos} {elts : List Expr} {kk : Nat} (hg : Gl X "enumerate") (hm : X.mg "enumerate" = none) (ha : PA X [e] ta) (hs : starEach [e] X.env = [(false, eval e X.env)] := by rfl) :
    PI X (.Tuple elts kk tpos) (.Call (.Name "enumerate" p) [e] [] pos) (iEnumT X.K ta) := by
  refine ⟨fun pins s σ H R I h => ?_⟩
  refine Call_ (ld_blt I hg hm boot_enumerate (PyProof.Rows.callWith_type1 (thn (ha.run pos pins s σ H _ I h) fun us s1 ⟨vs, H1, I1, r1, q1⟩ => ?_) hs rfl))
  obtain ⟨a, xs, ex, hq, q⟩ := q1
  subst ex
  cases r1 with
  | cons r rr =>
    cases rr
    cases r
    obtain ⟨its, rv, p', hz⟩ := I1.tuple hq
    have pT : s1.heap.IsTuple a its.toArray := p'
    have al : a < s1.heap.objs.size := by obtain ⟨_, q, _⟩ := pT; exact Heap.lt_size q
    refine call_enum_tup pT fun h' he hit hsz hk => wpAny_pyIter_enum he ?_
    have I2 : Inv X pins σ H1 { s1 with heap := h' } := I1.kept (t' := s1.toks) hk
    refine ⟨s1.heap.objs.size + 1, [s1.heap.objs.size + 1, s1.heap.objs.size], _, _, H1, rfl, I2, turn_enumT a (s1.heap.objs.size + 1) s1.heap.objs.size, ⟨⟨.none, he⟩, hit, Nat.succ_ne_self _, Nat.ne_of_lt al, Nat.ne_of_lt (Nat.lt_succ_of_lt al)⟩, fun b hb => ?_, q⟩
    have e' : b = s1.heap.objs.size + 1 ∨ b = s1.heap.objs.size := by simpa using hb
    have hle : s1.heap.objs.size ≤ b := by
      rcases e' with z | z
      · rw [z]; exact Nat.le_add_right _ _
      · rw [z]; exact Nat.le_refl _
    exact I1.fpOk hle (I1.hok.fresh hle)
/-- for i, x in enumerate(t), t a tuple that stays -/
theorem for_enumT {K : PySem.W.Frag} {a : Addr} {xs : List V} {g : TG} {tb : TS} {D : Ends} {σ : L2.St} {H : Hp} (Pv : Nat → L2.St → Hp → Prop) (h0 : Pv 0 σ H) (hl : ∀ i σ H, Pv i σ H → SqT K H a xs)
    (hs : ∀ i x T σ H1, xs[i]? = some x → Pv i σ H1 → H1 T = none → g (.ref T) σ (upd H1 T (.tup [.int (i : Nat), x])) fun σ2 H2 => tb { nx := Pv (i + 1), rt := D.rt, bk := D.nx, ct := Pv (i + 1) } σ2 H2)
    (hd : ∀ i σ H', Pv i σ H' → xs.length ≤ i → D.nx σ H') :
    ∃ W : Nat → Nat → L2.St → Hp → Prop, (∃ m, W 0 m σ H) ∧ ∀ i m σ H, W i m σ H →
      ((IteT K a).stop i H ∧ D.nx σ H) ∨ ((IteT K a).go i H ∧ ∃ N : L2.St → Hp → Prop, (∀ σ' H', N σ' H' → ∃ m', m' < m ∧ W (i + 1) m' σ' H') ∧ ∀ x H', (IteT K a).yld i H x H' → g x σ H' fun σ2 H2 => tb { nx := N, rt := D.rt, bk := D.nx, ct := N } σ2 H2) := by
  refine ⟨fun i m σ H => m = xs.length - i ∧ Pv i σ H, ⟨_, rfl, h0⟩, ?_⟩
  rintro i m σ H ⟨rfl, p⟩
  have k1 := hl i σ H p
  by_cases c : i < xs.length
  · obtain ⟨x, gx⟩ := get_of c
    refine .inr ⟨⟨xs, x, k1, gx⟩, Pv (i + 1), fun σ' H' p' => ⟨xs.length - (i + 1), by omega, rfl, p'⟩, fun z H' hy => ?_⟩
    obtain ⟨T, x', rfl, hT, rfl, f1⟩ := hy
    have ex : x' = x := Option.some.inj ((f1 _ k1).symm.trans gx)
    subst ex
    exact hs i _ T σ H gx p hT
  · exact .inl ⟨⟨xs, k1, by omega⟩, hd i σ H p (by omega)⟩
end Loc

set_option Elab.async false
set_option linter.all false
set_option maxRecDepth 100000
namespace Loc
open PySem PySem.Spec PyProof.Rows L2
/-! ### a call of a def that is entered while no repr is under way -/
section
variable {X : Cx} {CX : CXT} {k : Nat} {f : Addr} {fd : FuncData} {ps : List Str} {sp : Sp} {dvs : List V} {ds : List Value} {E : XK} {x : Str} {p pos : Pos} {e : Expr} {es : List Expr} {t : TA}
theorem run_fnG {pins : List (Addr × Obj)} {σ : L2.St} {H : Hp} {s : Shared} {Q : VK} {us : List Value} {vs : List V} (F : FnG X.prog X.w X.K X.mg X.base CX k f fd ps sp) (hg : X.A.guards = some []) (hr : Room k X.A) (hb : Binds X.K fd ps ds) (hd : Vals dvs ds) (hx : Passes CX X E)
    (I : Inv X pins σ H s) (r : Vals vs us) (h : sp (vs ++ dvs) H Q E) : wpAny (model X.prog X.w) X.A (call (.ref f) us) (EP X pins σ Q) X.xe s := by
  have r2 : Vals (vs ++ dvs) (us ++ ds) := r.append hd
  have hl : (us ++ ds).length = ps.length := by rw [← r2.length]; exact F.cnt h
  refine wpAny_call (codeAny_mono (F.go (out := X.stack) (ar := ⟨us, []⟩) hg hr I.env0 (hb s us I.kIn hl) r2 h) fun r s' hq => ?_)
  cases r with
  | error e => exact hx pins σ H s e s' I hq
  | ok fl =>
    cases fl with
    | ret u => exact I.after hq
    | next => exact False.elim hq
    | brk => exact False.elim hq
    | cont => exact False.elim hq
theorem pe_callG (F : FnG X.prog X.w X.K X.mg X.base CX k f fd ps sp) (gg : X.A.guards = some []) (hr : Room k X.A) (hg : Gl X x) (hm : X.mg x = some (.ref f)) (hk : PySem.W.keepIn X.K (.ref f) = true) (hb : Binds X.K fd ps ds) (hd : Vals dvs ds) (hx : Passes CX X E)
    (ha : PA X (e :: es) t) (hdb : (x == ("__debug__" : Str)) = false := by decide) (he : starEach (e :: es) X.env = (false, eval e X.env) :: starEach es X.env := by rfl) (hpl : (backTo pos (starEach es X.env)).any (·.1) = false := by rfl) :
    PE X (.Call (.Name x p) (e :: es) [] pos) (tCall sp dvs E t) := by
  refine ⟨fun pins s σ H Q I h => ?_⟩
  refine wpAny_Call_Name_kw (ld_glob I hg hm ?_ hdb)
  refine PySem.W.callWith_K (h₀ := X.base) I.ok.mod.kin hk (thn (ha.run pos pins s σ H _ I h) fun us s1 ⟨vs, H1, I1, r, q⟩ => ⟨I1.kIn, ?_⟩) he hpl
  exact run_fnG F gg hr hb hd hx I1 r q
end
/-! ### [.. for i, x in enumerate(xs)], xs a list that stays -/
theorem lc_enum {K : PySem.W.Frag} {a : Addr} {xs : List V} {g : TG} {tt : TT} {te : TE} {vs : List Nat} {σ : L2.St} {H1 : Hp} {D : Addr} {Qd : Hp → Prop} (Pv : Nat → Hp → Prop)
    (h0 : Pv 0 (upd H1 D (.lst []))) (hl : ∀ i H, Pv i H → SqL K H a xs)
    (hs : ∀ i x T H, xs[i]? = some x → Pv i H → H T = none → g (.ref T) (wipe σ vs) (upd H T (.tup [.int (i : Nat), x])) fun σ2 H2 => wipe σ2 vs = wipe σ vs ∧ tt σ2 H2 fun k H3 =>
      if k = true then te σ2 H3 fun z H4 => ∃ acc, H4 D = some (.lst acc) ∧ acc.length < sizeLine ∧ Pv (i + 1) (upd H4 D (.lst (acc ++ [z]))) else Pv (i + 1) H3)
    (hd : ∀ i H, Pv i H → xs.length ≤ i → Qd H) :
    ∃ W : Nat → Nat → Hp → Prop, (∃ m, W 0 m (upd H1 D (.lst []))) ∧ ∀ i m H, W i m H →
      ((Ite K a).stop i H ∧ Qd H) ∨ ((Ite K a).go i H ∧ ∃ Nx : Hp → Prop, (∀ H', Nx H' → ∃ m', m' < m ∧ W (i + 1) m' H') ∧ ∀ x H', (Ite K a).yld i H x H' → g x (wipe σ vs) H' fun σ2 H2 => wipe σ2 vs = wipe σ vs ∧ tt σ2 H2 fun k H3 =>
        if k = true then te σ2 H3 fun y H4 => ∃ acc, H4 D = some (.lst acc) ∧ acc.length < sizeLine ∧ Nx (upd H4 D (.lst (acc ++ [y]))) else Nx H3) := by
  refine ⟨fun i m H => m = xs.length - i ∧ Pv i H, ⟨_, rfl, h0⟩, ?_⟩
  rintro i m H ⟨rfl, p⟩
  have k1 := hl i H p
  by_cases c : i < xs.length
  · obtain ⟨x, gx⟩ := get_of c
    refine .inr ⟨⟨xs, x, k1, gx⟩, Pv (i + 1), fun H' p' => ⟨xs.length - (i + 1), by omega, rfl, p'⟩, fun z H' hy => ?_⟩
    obtain ⟨T, x', rfl, hT, rfl, f1⟩ := hy
    have ex : x' = x := Option.some.inj ((f1 _ k1).symm.trans gx)
    subst ex
    exact hs i _ T H gx p hT
  · exact .inl ⟨⟨xs, k1, by omega⟩, hd i H p (by omega)⟩
/-- a pot that stays but for others -/
theorem Pot.same {H H' : Hp} {p : Addr} {c : Nat} (h : Pot H p c) (e : Same H H') : Pot H' p c := let ⟨o, ho, po⟩ := h; ⟨o, e _ _ ho, po⟩
theorem dec_tt {α : Type} [DecidableEq α] (a : α) : decide (a = a) = true := decide_eq_true rfl
/-! ### calls by names alone -/
def kG {α : Type} (us ws : List α) : List α := match us with
  | [] => ws
  | _ => []
section
variable {X : Cx} {CX : CXT} {k : Nat} {f : Addr} {fd : FuncData} {ps ks : List Str} {sp : Sp} {E : XK} {x : Str} {p pos : Pos} {kws : List Keyword} {tk : TA} {g : List Value → List Value → List Value} {gV : List V → List V → List V}
theorem pe_callK0 (F : FnOk X.prog X.w X.K X.mg X.base CX k f fd ps sp) (hr : Room k X.A) (hg : Gl X x) (hm : X.mg x = some (.ref f)) (hk : PySem.W.keepIn X.K (.ref f) = true) (hb : KBinds X.K fd ps ks g gV) (hx : Passes CX X E)
    (hkw : PK X kws tk) (hall : (backToKw pos (keywordEach kws X.env)).all (·.1.isSome) = true := by rfl) (hks : (backToKw pos (keywordEach kws X.env)).filterMap (·.1) = ks := by rfl)
    (hdb : (x == ("__debug__" : Str)) = false := by decide) (hpl : ((backTo pos (starEach [] X.env)).any (·.1) || (backToKw pos (keywordEach kws X.env)).any (·.1.isNone)) = false := by rfl) :
    PE X (.Call (.Name x p) [] kws pos) (tCallK sp gV E tNil tk) := by
  refine ⟨fun pins s σ H Q I h => ?_⟩
  refine wpAny_Call_Name_kw (ld_glob I hg hm ?_ hdb)
  refine PySem.W.callWith_KW0 (h₀ := X.base) I.ok.mod.kin hk hall (thn (hkw.run pos pins s σ H _ I h) fun ws s2 ⟨zs, H2, I2, rz, q2⟩ => ⟨I2.kIn, ?_⟩) hpl
  rw [hks]
  exact run_fnk (us := []) (vs := []) F hr hb hx I2 .nil rz q2
end
theorem fun_kbinds {K : PySem.W.Frag} {x qual : Str} {st : Stmt} {f : Addr} {fd : FuncData} {ps : List Str} (F : Fun K x qual st f fd) (hp : 0 < ps.length)
    (h : ∀ (kV doc pm : Value) (an : Option Addr) (cdv ct : Value) (ws : List Value), ws.length = ps.length → bindArgs (PySem.W.fnOf x qual (defArgs st) (defBody st) (defScope st) .none kV doc pm an cdv ct) ⟨[], ps.zip ws⟩ = pure (ps.zip ws)) : KBinds K fd ps ps kG kG := by
  obtain ⟨oc, od, kV, doc, pm, an, cdv, ct, osl, rfl, lk, hcd⟩ := F.ex
  refine ⟨fun s us ws _ hl => ?_, fun r rz => ?_⟩
  · cases us with
    | nil => exact .of_eq (h kV doc pm an cdv ct ws hl)
    | cons u us =>
      have hl : (0 : Nat) = ps.length := hl
      omega
  · cases r with
    | nil => exact rz
    | cons _ _ => exact .nil
section
variable {K : PySem.W.Frag}
theorem shown_sumL (ns : List Nat) (h : ∀ n ∈ ns, n < 10 ^ 70) : (PyData.shown (.list ((ns.map fun n : Nat => (n : Int)).map PyData.int))).length ≤ 72 * ns.length + 10 := by
  have t := listText_len_le (PyData.shownAll ((ns.map fun n : Nat => (n : Int)).map PyData.int))
  have s := shown_sum ns h
  rw [PyData.shownAll_length, List.length_map, List.length_map] at t
  show (listText _).length ≤ _
  omega
/-- what repr asks of a list of small numbers -/
theorem rep_intsL {H : Hp} {a : Addr} {ns : List Nat} {Q : VK} (hS : SqL K H a (ns.map fun n : Nat => V.int (n : Int))) (h : ∀ n ∈ ns, n < 10 ^ 70) (hl : ns.length ≤ 100000)
    (q : Q (.str (PyData.shown (.list ((ns.map fun n : Nat => (n : Int)).map PyData.int)))) H) : rRep K [.ref a] H Q := by
  have dp := depth_ints (ns.map fun n : Nat => (n : Int))
  have e : (ns.map fun n : Nat => V.int (n : Int)) = (ns.map fun n : Nat => (n : Int)).map V.int := by
    rw [List.map_map]
    rfl
  rw [e] at hS
  refine ⟨a, _, rfl, .lst hS (DpAll.ints _), ?_, ?_, ?_, ?_, q⟩
  · show PyData.showableAll _ = true
    refine PyData.showableAll_ints _ fun n hn => ?_
    obtain ⟨m, hm, rfl⟩ := List.mem_map.mp hn
    exact log_small (h m hm)
  · show PyData.hasDictAll _ = false
    exact noDict_ints _
  · simp only [PyData.depth]
    omega
  · have := shown_sumL ns h
    rw [sizeLine_eq]
    omega
end
theorem rep_getL {α : Type} (l : List α) : ∀ (c i : Nat), i < l.length * c → (List.replicate c l).flatten[i]? = l[i % l.length]?
  | 0, i, h => by omega
  | c + 1, i, h => by
    rw [List.replicate_succ, List.flatten_cons]
    by_cases z : i < l.length
    · rw [List.getElem?_append_left z, Nat.mod_eq_of_lt z]
    · rw [List.getElem?_append_right (by omega), rep_getL l c (i - l.length) (by rw [Nat.mul_succ] at h; omega)]
      rw [Nat.mod_eq_sub_mod (show l.length ≤ i by omega)]
theorem rep_lenL {α : Type} (l : List α) : ∀ c : Nat, (List.replicate c l).flatten.length = l.length * c
  | 0 => rfl
  | c + 1 => by rw [List.replicate_succ, List.flatten_cons, List.length_append, rep_lenL l c, Nat.mul_succ, Nat.add_comm]
/-! ### pairs as data -/
theorem eqv_pairs : ∀ ps : List (Nd × Nat), PyData.eqvAll (ps.map pdat) (ps.map pdat) = true
  | [] => by simp [PyData.eqvAll]
  | p :: r => by
    have e1 : PyData.eqv (pdat p) (pdat p) = true := by
      unfold pdat
      simp [PyData.eqv, PyData.eqvAll, eqv_yes]
    simp only [List.map_cons, PyData.eqvAll, e1, eqv_pairs r, Bool.and_self]
theorem eqv_pairsT (ps : List (Nd × Nat)) : PyData.eqv (.tuple (ps.map pdat)) (.tuple (ps.map pdat)) = true := by
  unfold PyData.eqv
  exact eqv_pairs _
theorem eqv_pairsL (ps : List (Nd × Nat)) : PyData.eqv (.list (ps.map pdat)) (.list (ps.map pdat)) = true := by
  unfold PyData.eqv
  exact eqv_pairs _
theorem shaped_prsTT {l : Nat} {ps : List (Nd × Nat)} (h : ∀ p ∈ ps, Ok p.1 l) (hl : l ≤ 20) : SeqAt.shaped (.tuple (ps.map pdat)) = true := by
  obtain ⟨h1, h2⟩ := canLay_prs l ps h
  unfold SeqAt.shaped
  rw [Bool.and_eq_true]
  exact ⟨by unfold PyData.canLay0; exact h1, decide_eq_true (by unfold PyData.depth; omega)⟩
/-- pairs of elements and small counts -/
def ElPairs (ps : List (Nd × Nat)) : Prop := ∀ p ∈ ps, (∃ k : Nat, p.1 = .el k ∧ k ≤ 10 ^ 9) ∧ p.2 < 10 ^ 70
theorem shown_pdat {p : Nd × Nat} (h : (∃ k : Nat, p.1 = .el k ∧ k ≤ 10 ^ 9) ∧ p.2 < 10 ^ 70) : (PyData.shown (pdat p)).length ≤ 147 ∧ PyData.showable (pdat p) = true ∧ PyData.hasDict (pdat p) = false ∧ PyData.depth (pdat p) ≤ 2 := by
  obtain ⟨n, c⟩ := p
  obtain ⟨⟨k, e, hk⟩, hc⟩ := h
  have e : n = .el k := e
  subst e
  have hk7 : k < 10 ^ 70 := Nat.lt_of_le_of_lt hk (by decide +kernel)
  refine ⟨?_, ?_, ?_, ?_⟩
  · show (tupleText (PyData.shownAll [.int (k : Int), .int (c : Int)])).length ≤ 147
    have t := tupleText_len_le (PyData.shownAll [.int (k : Int), .int (c : Int)])
    have h1 := shown_len hk7
    have h2 := shown_len (n := c) hc
    simp only [PyData.shownAll, List.map_cons, List.map_nil, List.sum_cons, List.sum_nil, List.length_cons, List.length_nil] at t
    simp only [PyData.shownAll]
    omega
  · show PyData.showableAll (([k, c].map fun n : Nat => (n : Int)).map PyData.int) = true
    refine PyData.showableAll_ints _ fun n hn => ?_
    obtain ⟨m, hm, rfl⟩ := List.mem_map.mp hn
    simp only [List.mem_cons, List.not_mem_nil, or_false] at hm
    rcases hm with rfl | rfl
    · exact log_small hk7
    · exact log_small hc
  · show PyData.hasDictAll (([k, c].map fun n : Nat => (n : Int)).map PyData.int) = false
    exact noDict_ints _
  · have := depth_ints ([k, c].map fun n : Nat => (n : Int))
    show PyData.depth (.tuple (([k, c].map fun n : Nat => (n : Int)).map PyData.int)) ≤ 2
    simp only [PyData.depth]
    omega
theorem shown_pdats : ∀ ps : List (Nd × Nat), ElPairs ps → ((PyData.shownAll (ps.map pdat)).map (·.length)).sum ≤ 147 * ps.length ∧ PyData.showableAll (ps.map pdat) = true ∧ PyData.hasDictAll (ps.map pdat) = false ∧ PyData.depthAll (ps.map pdat) ≤ 2
  | [], _ => by simp [PyData.shownAll, PyData.showableAll, PyData.hasDictAll, PyData.depthAll]
  | p :: r, h => by
    obtain ⟨a1, a2, a3, a4⟩ := shown_pdat (h p List.mem_cons_self)
    obtain ⟨b1, b2, b3, b4⟩ := shown_pdats r fun q hq => h q (List.mem_cons_of_mem _ hq)
    simp only [List.map_cons, PyData.shownAll, PyData.showableAll, PyData.hasDictAll, PyData.depthAll, List.sum_cons, List.length_cons, a2, b2, a3, b3, Bool.and_self, Bool.or_self]
    refine ⟨by omega, trivial, trivial, by omega⟩
theorem shown_prsT {ps : List (Nd × Nat)} (h : ElPairs ps) : (PyData.shown (.tuple (ps.map pdat))).length ≤ 149 * ps.length + 3 ∧ PyData.showable (.tuple (ps.map pdat)) = true ∧ PyData.hasDict (.tuple (ps.map pdat)) = false ∧ PyData.depth (.tuple (ps.map pdat)) ≤ 3 := by
  obtain ⟨b1, b2, b3, b4⟩ := shown_pdats ps h
  refine ⟨?_, b2, b3, ?_⟩
  · show (tupleText _).length ≤ _
    have t := tupleText_len_le (PyData.shownAll (ps.map pdat))
    rw [PyData.shownAll_length, List.length_map] at t
    omega
  · simp only [PyData.depth]
    omega
section
variable {K : PySem.W.Frag}
/-- repr of pairs -/
theorem rep_prsT {H : Hp} {a : Addr} {us : List V} {ps : List (Nd × Nat)} {Q : VK} (hS : SqT K H a us) (hn : PrsV K H us ps) (h : ElPairs ps) (hl : ps.length ≤ 1000) (q : Q (.str (PyData.shown (.tuple (ps.map pdat)))) H) : rRep K [.ref a] H Q := by
  obtain ⟨b1, b2, b3, b4⟩ := shown_prsT h
  refine ⟨a, _, rfl, .tup hS hn, b2, b3, by omega, ?_, q⟩
  rw [sizeLine_eq]
  omega
/-- repr of a list of two tuples of pairs -/
theorem rep_two {H : Hp} {a b c : Addr} {us ws : List V} {ps : List (Nd × Nat)} {Q : VK} (hL : SqL K H a [.ref b, .ref c]) (hb : SqT K H b us) (hc : SqT K H c ws) (hn : PrsV K H us ps) (hm : PrsV K H ws ps) (h : ElPairs ps) (hl : ps.length ≤ 1000)
    (q : Q (.str (PyData.shown (.list [.tuple (ps.map pdat), .tuple (ps.map pdat)]))) H) : rRep K [.ref a] H Q := by
  obtain ⟨b1, b2, b3, b4⟩ := shown_prsT h
  refine ⟨a, _, rfl, .lst hL (.cons (.tup hb hn) (.cons (.tup hc hm) .nil)), ?_, ?_, ?_, ?_, q⟩
  · simp only [PyData.showable, PyData.showableAll]
    simp only [PyData.showable] at b2
    rw [b2]
    rfl
  · simp only [PyData.hasDict, PyData.hasDictAll]
    simp only [PyData.hasDict] at b3
    rw [b3]
    rfl
  · simp only [PyData.depth, PyData.depthAll]
    simp only [PyData.depth] at b4
    omega
  · show (listText (PyData.shownAll [.tuple (ps.map pdat), .tuple (ps.map pdat)])).length ≤ sizeLine
    have t := listText_len_le (PyData.shownAll [.tuple (ps.map pdat), .tuple (ps.map pdat)])
    simp only [PyData.shownAll, List.map_cons, List.map_nil, List.sum_cons, List.sum_nil, List.length_cons, List.length_nil] at t
    simp only [PyData.shownAll]
    rw [sizeLine_eq]
    omega
end
/-! ### repr of a tuple, an int, None -/
def rRepV (K : PySem.W.Frag) : List V → Hp → VK → Prop := fun xs H Q => rRepA K xs H Q ∨ (xs = [.non] ∧ Q (.str "None") H)
theorem call_repV {X : Cx} {k : Nat} (hr : Room k X.A) (hg : X.A.guards = some []) : CallR X (.builtin "repr") (rRepV X.K) := by
  intro pins s σ H xs us Q I r h
  rcases h with h | ⟨rfl, q⟩
  · exact call_repA hr hg pins s σ H xs us Q I r h
  · obtain ⟨u, rfl, ru⟩ := vals1 r
    cases ru
    exact PySem.P.repr_of_none ⟨.str _, H, I.tok _, ⟨_, rfl⟩, q⟩
theorem sum_ints (l : List Nat) : (l.map fun n : Nat => (n : Int)).sum = ((l.sum : Nat) : Int) := by
  induction l with
  | nil => rfl
  | cons a r ih => rw [List.map_cons, List.sum_cons, List.sum_cons, ih, Int.natCast_add]
open RZ
/-! ### for x, y in zip(t, u), t and u tuples of any lengths -/
theorem for_zipU {K : PySem.W.Frag} {a b : Addr} {xs ys : List V} {g : TG} {tb : TS} {D : Ends} {σ : L2.St} {H : Hp} (Pv : Nat → L2.St → Hp → Prop) (h0 : Pv 0 σ H) (hq : ∀ i σ H, Pv i σ H → SqT K H a xs ∧ SqT K H b ys)
    (hs : ∀ (i : Nat) (x y : V) (T : Addr) (σ : L2.St) (H : Hp), xs[i]? = some x → ys[i]? = some y → Pv i σ H → H T = none → g (.ref T) σ (upd H T (.tup [x, y])) fun σ2 H2 => tb { D with nx := Pv (i + 1), ct := Pv (i + 1), bk := D.nx } σ2 H2)
    (hd : ∀ i σ H, Pv i σ H → (xs.length ≤ i ∨ ys.length ≤ i) → D.nx σ H) :
    ∃ W : Nat → Nat → L2.St → Hp → Prop, (∃ m, W 0 m σ H) ∧ ∀ i m σ H, W i m σ H →
      ((ItzT K a b).stop i H ∧ D.nx σ H) ∨ ((ItzT K a b).go i H ∧ ∃ N : L2.St → Hp → Prop, (∀ σ' H', N σ' H' → ∃ m', m' < m ∧ W (i + 1) m' σ' H') ∧ ∀ v H', (ItzT K a b).yld i H v H' → g v σ H' fun σ2 H2 => tb { D with nx := N, ct := N, bk := D.nx } σ2 H2) := by
  refine ⟨fun i m σ H => m = xs.length - i ∧ Pv i σ H, ⟨_, rfl, h0⟩, ?_⟩
  rintro i m σ H ⟨rfl, p⟩
  obtain ⟨k1, k2⟩ := hq i σ H p
  by_cases c : i < xs.length ∧ i < ys.length
  · obtain ⟨x, gx⟩ := get_of c.1
    obtain ⟨y, gy⟩ := get_of c.2
    refine .inr ⟨⟨xs, ys, x, y, k1, k2, gx, gy⟩, Pv (i + 1), fun σ' H' p' => ⟨xs.length - (i + 1), by omega, rfl, p'⟩, fun v H' hy => ?_⟩
    obtain ⟨T, x', y', rfl, hT, rfl, f1, f2⟩ := hy
    have ex : x' = x := Option.some.inj ((f1 _ k1).symm.trans gx)
    have ey : y' = y := Option.some.inj ((f2 _ k2).symm.trans gy)
    subst ex
    subst ey
    exact hs i _ _ T σ H gx gy p hT
  · have c' : xs.length ≤ i ∨ ys.length ≤ i := by omega
    exact .inl ⟨⟨xs, ys, k1, k2, c'⟩, hd i σ H p c'⟩
/-- t[1:] -/
theorem slice_one {K : PySem.W.Frag} {H : Hp} {a : Addr} {xs : List V} {Q : VK} (h : SqT K H a xs) (q : ∀ H' t, Same H H' → SqT K H' t (xs.drop 1) → Q (.ref t) H') : rSlA K (.ref a) (some 1) none H Q := by
  refine ⟨a, xs, rfl, h, fun hw => q H a (Same.refl H) ?_, fun hw u nu => q _ u (sameN nu) (.inl (.inl ?_))⟩
  · have h1 : HT.sIx xs.length 0 (some ((1 : Nat) : Int)) = 0 := hw.1
    rw [HT.sIx_nat] at h1
    have : xs.length = 0 := by omega
    rw [List.eq_nil_of_length_eq_zero this] at h ⊢
    exact h
  · rw [upd_same]
    refine congrArg (fun z => some (HO.tup z)) ?_
    show cutV xs (some ((1 : Nat) : Int)) none = _
    unfold cutV
    rw [HT.sIx_nat, HT.sIx_none]
    by_cases z : xs.length = 0
    · rw [List.eq_nil_of_length_eq_zero z]
      rfl
    · rw [show min 1 xs.length = 1 by omega]
      exact List.take_of_length_le (by rw [List.length_drop]; exact Nat.le_refl _)
/-- a pair as data -/
theorem shaped_pdat {p : Nd × Nat} {l : Nat} (h : Ok p.1 l) (hl : l ≤ 20) : SeqAt.shaped (pdat p) = true := by
  obtain ⟨h1, h2⟩ := canLay_prs l [p] fun q hq => by rw [List.mem_singleton.mp hq]; exact h
  unfold SeqAt.shaped
  rw [Bool.and_eq_true]
  simp only [List.map_cons, List.map_nil, PyData.canLayAll0, PyData.depthAll, Bool.and_true] at h1 h2
  exact ⟨h1, decide_eq_true (by omega)⟩
theorem eqv_pdat (p : Nd × Nat) : PyData.eqv (pdat p) (pdat p) = true := by
  unfold pdat
  simp [PyData.eqv, PyData.eqvAll, eqv_yes]
end Loc

set_option Elab.async false
set_option linter.all false
namespace Loc
open PySem PySem.Spec PyProof.Rows L2
section
variable {X : Cx} {a b c d : Expr} {ta tb tc td : TE} {pos : Pos}
/-- a op1 b op2 c op3 d -/
def tChain3 (r r' r'' : R2) (ta tb tc td : TE) : TE := fun σ H Q => ta σ H fun x H1 => tb σ H1 fun y H2 => r x y H2 fun z H3 => ∃ k, z = .bl k ∧
  (if k = true then tc σ H3 fun w' H4 => r' y w' H4 fun z2 H5 => ∃ k2, z2 = .bl k2 ∧ (if k2 = true then td σ H5 fun u H6 => r'' w' u H6 Q else Q (.bl false) H5) else Q (.bl false) H3)
theorem pt_chain3 {op op' op'' : CmpOp} {r r' r'' : R2} (ho : OpR X (compareOp op) r) (ho' : OpR X (compareOp op') r') (ho'' : OpR X (compareOp op'') r'') (ha : PE X a ta) (hb : PE X b tb) (hc : PE X c tc) (hd : PE X d td)
    (hm : lastMarks [op, op', op''] [b, c, d] = false := by with_unfolding_all rfl) : PT X (.Compare a [op, op', op''] [b, c, d] pos) (tTest (tChain3 r r' r'' ta tb tc td)) := by
  refine ⟨fun pins s σ H Q I h => ?_⟩
  refine isTrue_chain (thn (ha.run pins s σ H _ I h) fun v s1 ⟨x, H1, I1, r1, q1⟩ => test_link (thn (hb.run pins s1 σ H1 _ I1 q1) fun u s2 ⟨y, H2, I2, r2, q2⟩ =>
    thn (ho pins s2 σ H2 x y v u _ I2 r1 r2 q2) fun d' s3 ⟨z, H3, I3, r3, k, e, q3⟩ => ?_)) hm
  subst e
  cases r3
  refine wpAny_truthy_bool ?_
  cases k with
  | false =>
    obtain ⟨k', e', q'⟩ := q3
    cases e'
    exact ite_ff ⟨H3, I3, q'⟩
  | true =>
    refine ite_tt (test_link (thn (hc.run pins s3 σ H3 _ I3 q3) fun w' s4 ⟨z', H4, I4, r4, q4⟩ => thn (ho' pins s4 σ H4 y z' u w' _ I4 r2 r4 q4) fun d2 s5 ⟨z2, H5, I5, r5, k2, e2, q5⟩ => ?_))
    subst e2
    cases r5
    refine wpAny_truthy_bool ?_
    cases k2 with
    | false =>
      obtain ⟨k', e', q'⟩ := q5
      cases e'
      exact ite_ff ⟨H5, I5, q'⟩
    | true =>
      refine ite_tt (test_last (thn (hd.run pins s5 σ H5 _ I5 q5) fun w2 s6 ⟨z6, H6, I6, r6, q6⟩ => thn (ho'' pins s6 σ H6 z' z6 w' w2 _ I6 r4 r6 q6) fun d3 s7 ⟨z7, H7, I7, r7, k3, e3, q7⟩ => ?_))
      subst e3
      cases r7
      exact wpAny_truthy_bool ⟨H7, I7, q7⟩
end
end Loc

set_option Elab.async false
set_option linter.all false
set_option maxRecDepth 100000
namespace Loc
open PySem PySem.Spec PyProof.Rows L2
/-- a comprehension over reversed(t), t a tuple -/
theorem lc_revT {K : PySem.W.Frag} {a : Addr} {xs : List V} {g : TG} {tt : TT} {te : TE} {vs : List Nat} {σ : L2.St} {H1 : Hp} {D : Addr} {Qd : Hp → Prop} (Pv : Nat → Hp → Prop) (h0 : Pv 0 (upd H1 D (.lst []))) (hl : ∀ i H, i ≤ xs.length → Pv i H → SqT K H a xs)
    (hs : ∀ i x H, i < xs.length → xs[xs.length - 1 - i]? = some x → Pv i H → g x (wipe σ vs) H fun σ2 H2 => wipe σ2 vs = wipe σ vs ∧ tt σ2 H2 fun b H3 =>
      if b = true then te σ2 H3 fun y H4 => ∃ acc, H4 D = some (.lst acc) ∧ acc.length < sizeLine ∧ Pv (i + 1) (upd H4 D (.lst (acc ++ [y]))) else Pv (i + 1) H3) (hd : ∀ H, Pv xs.length H → Qd H) :
    ∃ W : Nat → Nat → Hp → Prop, (∃ m, W 0 m (upd H1 D (.lst []))) ∧ ∀ i m H, W i m H →
      ((RT.ItvT K a xs.length).stop i H ∧ Qd H) ∨ ((RT.ItvT K a xs.length).go i H ∧ ∃ Nx : Hp → Prop, (∀ H', Nx H' → ∃ m', m' < m ∧ W (i + 1) m' H') ∧ ∀ x H', (RT.ItvT K a xs.length).yld i H x H' → g x (wipe σ vs) H' fun σ2 H2 => wipe σ2 vs = wipe σ vs ∧ tt σ2 H2 fun b H3 =>
        if b = true then te σ2 H3 fun y H4 => ∃ acc, H4 D = some (.lst acc) ∧ acc.length < sizeLine ∧ Nx (upd H4 D (.lst (acc ++ [y]))) else Nx H3) := by
  refine ⟨fun i m H => m = xs.length - i ∧ i ≤ xs.length ∧ Pv i H, ⟨xs.length, by simp, Nat.zero_le _, h0⟩, ?_⟩
  rintro i m H ⟨rfl, hi, p⟩
  have q := hl i H hi p
  by_cases hlt : i < xs.length
  · refine .inr ⟨⟨hlt, xs, xs[xs.length - 1 - i]'(by omega), q, by rw [List.getElem?_eq_getElem]⟩, Pv (i + 1), fun H' p' => ⟨xs.length - (i + 1), by omega, rfl, hlt, p'⟩, fun x H' y => ?_⟩
    obtain ⟨e, y⟩ := y
    subst e
    exact hs i x _ hlt (y xs q) p
  · have e : i = xs.length := by omega
    subst e
    exact .inl ⟨Nat.le_refl _, hd H p⟩
end Loc

set_option Elab.async false
set_option linter.all false
set_option maxRecDepth 100000
set_option maxHeartbeats 4000000
namespace Loc
open PySem PySem.Spec PyProof.Rows L2
/-- a short tuple, written up to 2000 times -/
def rRepT2 (K : PySem.W.Frag) : R2 := fun x y H Q => ∃ l k xs, x = .ref l ∧ y = .int k ∧ SqT K H l xs ∧ xs ≠ [] ∧ 2 ≤ k ∧ k ≤ 2000 ∧ xs.length ≤ 400 ∧ ∀ H' p, Same H H' → SqT K H' p (List.replicate k.toNat xs).flatten → Q (.ref p) H'
theorem op_repT2 {X : Cx} : OpR X (binaryOp .Mult) (rRepT2 X.K) := by
  intro pins s σ H x y v u Q I rx ry h
  obtain ⟨l, k, xs, rfl, rfl, tup, ne, two, most, short, q⟩ := h
  cases rx
  obtain ⟨w, rfl⟩ := ry
  obtain ⟨ys, r, ⟨⟨cls, dd, data, sl⟩, hob, hcl, n, hdt⟩, hsm⟩ := I.tuple tup
  simp only at hcl hdt
  subst hcl hdt
  have ly : ys.length = xs.length := r.length.symm
  obtain ⟨y0, yr, rfl⟩ : ∃ y0 yr, ys = y0 :: yr := by
    cases ys with
    | nil => exact absurd (List.eq_nil_of_length_eq_zero ly.symm) ne
    | cons a b => exact ⟨a, b, rfl⟩
  have filled : ((y0 :: yr).toArray).isEmpty = false := rfl
  have size0 : ((y0 :: yr).toArray).size = xs.length := by rw [List.size_toArray, ly]
  have prod : ((((y0 :: yr).toArray).size : Nat) : Int) * k ≤ 800000 := by
    rw [size0]
    have := Int.mul_le_mul_of_nonneg_right (c := k) (show ((xs.length : Nat) : Int) ≤ 400 by omega) (by omega)
    omega
  have prodN : k.toNat * xs.length ≤ 2000 * 400 := Nat.mul_le_mul (by omega) short
  have flat : (List.replicate k.toNat (y0 :: yr)).flatten.length ≤ sizeLine := by
    rw [PyProof.Rows.lm_len_rep_flat, ly]
    exact Nat.le_trans prodN (by decide)
  have b0 : (decide (k < -(2 ^ 63)) || decide (k ≥ 2 ^ 63)) = false := by
    rw [Bool.or_eq_false_iff]
    exact ⟨decide_eq_false (by omega), decide_eq_false (by omega)⟩
  have b1 : (((y0 :: yr).toArray).isEmpty || k == 1) = false := Bool.or_eq_false_iff.mpr ⟨filled, beq_eq_false_iff_ne.mpr (by omega)⟩
  have b2 : (decide (k ≤ 0) || ((y0 :: yr).toArray).isEmpty) = false := Bool.or_eq_false_iff.mpr ⟨decide_eq_false (by omega), filled⟩
  have b4 : Builtin.Tuple.tupleTooMany (((((y0 :: yr).toArray).size : Nat) : Int) * k) = false := by
    have : (800000 : Int) ≤ ((sizeLine : Nat) : Int) := by decide
    exact decide_eq_false (by omega)
  refine wpAny_binaryOp_repeat_ref (T := "tuple") (U := "int")
    (by decide) ⟨_, hob, rfl⟩ (fun s' => typeIs_int s' k w)
    noFill_tuple_mul PySem.F.fills_int_mul PySem.F.slot_int_rmul
    repeat_tuple PySem.F.slot_int_index.lookup ?_
  refine call_meets PySem.F.slot_int_rmul (typeIs_int s k w)
    PySem.F.entry_int_rmul (PySem.F.args_int_rmul_2 _ _)
    (int_rmul_tuple k w l (y0 :: yr).toArray n dd sl) ⟨hob, rfl, ⟨_, hob, rfl⟩, ?_⟩
  refine call_meets PySem.F.slot_tuple_mul ⟨_, hob, rfl⟩
    PySem.F.entry_tuple_mul (PySem.F.args_tuple_mul_2 _ _)
    (tuple_mulW l (y0 :: yr).toArray n dd sl k w b0 b1 b2 (by omega) b4
      (by rw [size_rep, List.size_toArray]; exact flat)) ⟨hob, ?_⟩
  rw [size_rep]
  have fresh : H s.heap.objs.size = none := I.hok.fresh (Nat.le_refl _)
  refine ⟨.ref s.heap.objs.size, _, I.laid (t' := s.toks) (o := .tup (List.replicate k.toNat xs).flatten)
    (fun b ob z => Heap.get?_push_of_some _ z) (Nat.le_refl _) ⟨?_, _, r.rep k.toNat, IsTup.new _ _⟩, rfl, q _ _ (sameN fresh) (.inl (.inl upd_same))⟩
  rw [PyProof.Rows.lm_len_rep_flat]
  exact Nat.le_trans prodN (by decide)
end Loc

set_option linter.all false
/-! marks depend on few places to the left; where there are marks, there are peaks -/
namespace M82
/-- what a round makes of an end of a row, its first place left out -/
def stp : List Nat → List Nat
  | [] => []
  | c :: t => M07.marks c t
theorem marks_app (a : Nat) : ∀ (x s : List Nat) (c : Nat), ∃ y, M07.marks a (x ++ c :: s) = y ++ M07.marks c s ∧ y.length = x.length + 1
  | [], s, c => ⟨[M07.mk a c], by rw [List.nil_append, M07.marks]; rfl, rfl⟩
  | b :: x, s, c => by
    obtain ⟨y, e, l⟩ := marks_app b x s c
    exact ⟨M07.mk a b :: y, by rw [List.cons_append, M07.marks, e]; rfl, by rw [List.length_cons, l, List.length_cons]⟩
theorem marks_len (a : Nat) : ∀ x : List Nat, (M07.marks a x).length = x.length
  | [] => rfl
  | b :: x => by rw [M07.marks, List.length_cons, marks_len b x, List.length_cons]
theorem stp_len (s : List Nat) : (stp s).length = s.length - 1 := by
  cases s with
  | nil => rfl
  | cons c t => rw [stp, marks_len, List.length_cons, Nat.add_sub_cancel]
/-- a round, on a row with this end -/
theorem round_end (x s : List Nat) : ∃ y, M07.round (x ++ s) = y ++ stp s ∧ y.length = x.length + min 1 s.length := by
  cases s with
  | nil => exact ⟨M07.round x, by rw [List.append_nil, stp, List.append_nil], by rw [M07.round_length]; rfl⟩
  | cons c t =>
    cases x with
    | nil =>
      have e : ∃ z, M07.round (c :: t) = z :: M07.marks c t := ⟨_, rfl⟩
      obtain ⟨z, e⟩ := e
      exact ⟨[z], by rw [List.nil_append, e]; rfl, by simp⟩
    | cons a x =>
      obtain ⟨y, e, l⟩ := marks_app a x t c
      have e' : ∃ z, M07.round (a :: (x ++ c :: t)) = z :: M07.marks a (x ++ c :: t) := ⟨_, rfl⟩
      obtain ⟨z, e'⟩ := e'
      exact ⟨z :: y, by rw [List.cons_append, e', e]; rfl, by rw [List.length_cons, l, List.length_cons, List.length_cons]; omega⟩
/-- a round, on a row with this beginning -/
theorem marks_beg (a : Nat) : ∀ (x s : List Nat), ∃ z, M07.marks a (x ++ s) = M07.marks a x ++ z
  | [], s => ⟨M07.marks a s, rfl⟩
  | b :: x, s => by
    obtain ⟨z, e⟩ := marks_beg b x s
    exact ⟨z, by rw [List.cons_append, M07.marks, e, M07.marks]; rfl⟩
theorem round_beg (x s : List Nat) : ∃ z, M07.round (x ++ s) = M07.round x ++ z := by
  cases x with
  | nil => exact ⟨M07.round s, rfl⟩
  | cons a x =>
    obtain ⟨z, e⟩ := marks_beg a x s
    have e1 : ∃ w, ∀ r, M07.round (a :: r) = w :: M07.marks a r := ⟨_, fun _ => rfl⟩
    obtain ⟨w, e1⟩ := e1
    exact ⟨z, by rw [List.cons_append, e1, e1, e]; rfl⟩
/-! ### valleys -/
/-- no place that is above both neighbours -/
def NoPk : List Nat → Prop
  | a :: b :: c :: r => ¬ (a < b ∧ c < b) ∧ NoPk (b :: c :: r)
  | _ => True
/-- once it goes up, it goes up -/
theorem up_all : ∀ (r : List Nat) (a b : Nat), a < b → NoPk (a :: b :: r) → M07.Unl (b :: r) → b + r.length ≤ (b :: r).getLast (by simp)
  | [], a, b, _, _, _ => by simp
  | c :: r, a, b, h, n, u => by
    have hc : b < c := by
      have h1 := n.1
      have h2 : b ≠ c := u.1
      omega
    have := up_all r b c hc n.2 u.2
    rw [List.length_cons, List.getLast_cons (by simp)]
    omega
/-- a row of unlike neighbours of 0 to 5 with no peak has at most eleven places -/
theorem valley : ∀ (r : List Nat) (a : Nat), NoPk (a :: r) → M07.Unl (a :: r) → (∀ x ∈ a :: r, x ≤ 5) → r.length ≤ a + 5
  | [], a, _, _, _ => Nat.zero_le _
  | b :: r, a, n, u, h => by
    have ab : a ≠ b := u.1
    rcases Nat.lt_or_gt_of_ne ab with c | c
    · have := up_all r a b c n u.2
      have l5 := h _ (List.mem_cons_of_mem _ (List.getLast_mem (show b :: r ≠ [] by simp)))
      rw [List.length_cons]
      omega
    · have n2 : NoPk (b :: r) := by
        cases r with
        | nil => trivial
        | cons d r => exact n.2
      have := valley r b n2 u.2 fun x hx => h x (List.mem_cons_of_mem _ hx)
      rw [List.length_cons]
      omega
/-! ### cuts, from a beginning on -/
def cutsL (n b : Nat) (tops : List Nat) : List Nat := ((M10.sts n b tops).flatMap M10.stz).map (·.1)
theorem cutsL_nil (n b : Nat) : cutsL n b [] = (M10.str (n - b) b).map (·.1) := by
  unfold cutsL
  rw [M10.sts, List.flatMap_cons, List.flatMap_nil, List.append_nil]
  rfl
theorem cutsL_cons (n b t : Nat) (r : List Nat) : cutsL n b (t :: r) = (M10.str (t - b) b).map (·.1) ++ cutsL n t r := by
  unfold cutsL
  rw [M10.sts, List.flatMap_cons, List.map_append]
  rfl
theorem filter_more {p : Nat → Bool} {a : Nat} : ∀ d : Nat, (∀ k, p k = true → k < a) → (List.range (a + d)).filter p = (List.range a).filter p
  | 0, _ => rfl
  | d + 1, h => by
    rw [← Nat.add_assoc, List.range_succ, List.filter_append, filter_more d h]
    have : p (a + d) = false := by
      cases e : p (a + d) with
      | false => rfl
      | true => have := h _ e; omega
    rw [List.filter_cons_of_neg (by rw [this]; decide), List.filter_nil, List.append_nil]
theorem filter_two {p : Nat → Bool} {a b : Nat} (h : ∀ k, p k = true → k < a ∧ k < b) : (List.range a).filter p = (List.range b).filter p := by
  rcases Nat.le_total a b with l | l
  · obtain ⟨d, rfl⟩ : ∃ d, b = a + d := ⟨b - a, by omega⟩
    exact (filter_more d fun k hk => (h k hk).1).symm
  · obtain ⟨d, rfl⟩ : ∃ d, a = b + d := ⟨a - b, by omega⟩
    exact filter_more d fun k hk => (h k hk).2
theorem filter_map_p {α β : Type} (f : α → β) (p : β → Bool) : ∀ l : List α, (l.map f).filter p = (l.filter fun x => p (f x)).map f
  | [] => rfl
  | a :: l => by
    rw [List.map_cons, List.filter_cons, List.filter_cons, filter_map_p f p l]
    split <;> rfl
theorem str_near {d d' b M : Nat} (h : 2 ≤ d) (h' : 2 ≤ d') (m : M ≤ b + d) (m' : M ≤ b + d') : ((M10.str d b).map (·.1)).filter (fun s => decide (s + 2 ≤ M)) = ((M10.str d' b).map (·.1)).filter (fun s => decide (s + 2 ≤ M)) := by
  rw [M10.str_fst d b h, M10.str_fst d' b h', filter_map_p, filter_map_p]
  congr 1
  refine filter_two fun k hk => ?_
  have := of_decide_eq_true hk
  omega
theorem str_mem {d b s : Nat} (h : 2 ≤ d) (hs : s ∈ (M10.str d b).map (·.1)) : b ≤ s ∧ s + 2 ≤ b + d := by
  rw [M10.str_fst d b h] at hs
  obtain ⟨k, hk, rfl⟩ := List.mem_map.mp hs
  have := List.mem_range.mp hk
  omega
theorem cutsL_mem {n : Nat} : ∀ {tops : List Nat} {b s : Nat}, M10.Gap n b tops → s ∈ cutsL n b tops → b ≤ s ∧ s + 2 ≤ n
  | [], b, s, g, hs => by
    rw [cutsL_nil] at hs
    have g : b + 2 ≤ n := g
    have := str_mem (by omega) hs
    omega
  | t :: r, b, s, g, hs => by
    rw [cutsL_cons] at hs
    have g1 : b + 2 ≤ t := g.1
    have tn : t + 2 ≤ n := by
      have le : ∀ {b : Nat} {r : List Nat}, M10.Gap n b r → b + 2 ≤ n := by
        intro b r
        induction r generalizing b with
        | nil => exact fun h => h
        | cons u r ih => intro h; have := ih h.2; have := h.1; omega
      exact le g.2
    rcases List.mem_append.mp hs with h | h
    · have := str_mem (by omega) h
      omega
    · have := cutsL_mem g.2 h
      omega
theorem filter_none {p : Nat → Bool} {l : List Nat} (h : ∀ s ∈ l, p s = false) : l.filter p = [] := List.filter_eq_nil_iff.mpr fun s hs => by rw [h s hs]; decide
/-- peaks that agree ahead of M lead to cuts that agree ahead of M - 1 -/
theorem cuts_near {n n' M : Nat} {v v' : List Nat} (hv : ∀ t ∈ v, M ≤ t) (hv' : ∀ t ∈ v', M ≤ t) (hn : M ≤ n) (hn' : M ≤ n') : ∀ (u : List Nat) (b : Nat), M10.Gap n b (u ++ v) → M10.Gap n' b (u ++ v') →
    (cutsL n b (u ++ v)).filter (fun s => decide (s + 2 ≤ M)) = (cutsL n' b (u ++ v')).filter (fun s => decide (s + 2 ≤ M))
  | t :: u, b, g, g' => by
    rw [List.cons_append, List.cons_append, cutsL_cons, cutsL_cons, List.filter_append, List.filter_append, cuts_near hv hv' hn hn' u t g.2 g'.2]
  | [], b, g, g' => by
    have part : ∀ {n : Nat} {v : List Nat}, (∀ t ∈ v, M ≤ t) → M ≤ n → M10.Gap n b v → ∃ d, 2 ≤ d ∧ M ≤ b + d ∧ (cutsL n b v).filter (fun s => decide (s + 2 ≤ M)) = ((M10.str d b).map (·.1)).filter (fun s => decide (s + 2 ≤ M)) := by
      intro n v hv hn g
      cases v with
      | nil =>
        have g : b + 2 ≤ n := g
        exact ⟨n - b, by omega, by omega, by rw [cutsL_nil]⟩
      | cons t r =>
        have g1 : b + 2 ≤ t := g.1
        have ht := hv t List.mem_cons_self
        refine ⟨t - b, by omega, by omega, ?_⟩
        rw [cutsL_cons, List.filter_append, filter_none (l := cutsL n t r) (fun s hs => decide_eq_false (by have := cutsL_mem g.2 hs; omega)), List.append_nil]
    rw [List.nil_append, List.nil_append] at *
    obtain ⟨d, h1, h2, e⟩ := part hv hn g
    obtain ⟨d', h1', h2', e'⟩ := part hv' hn' g'
    rw [e, e']
    exact str_near h1 h1' h2 h2'
theorem str_shift (d b g : Nat) (h : 2 ≤ d) : (M10.str d (b + g)).map (·.1) = ((M10.str d b).map (·.1)).map (· + g) := by
  rw [M10.str_fst d _ h, M10.str_fst d b h, List.map_map]
  refine List.map_congr_left fun k _ => ?_
  show b + g + k * 2 = b + k * 2 + g
  omega
theorem cutsL_shift (g : Nat) {N : Nat} : ∀ (v : List Nat) (b : Nat), M10.Gap N b v → cutsL (N + g) (b + g) (v.map (· + g)) = (cutsL N b v).map (· + g)
  | [], b, h => by
    have h : b + 2 ≤ N := h
    rw [List.map_nil, cutsL_nil, cutsL_nil, show N + g - (b + g) = N - b by omega, str_shift _ _ _ (by omega)]
  | t :: v, b, h => by
    have h1 : b + 2 ≤ t := h.1
    rw [List.map_cons, cutsL_cons, cutsL_cons, List.map_append, cutsL_shift g v t h.2, show t + g - (b + g) = t - b by omega, str_shift _ _ _ (by omega)]
theorem gap_le {n x : Nat} {w : List Nat} : ∀ {u : List Nat} {b : Nat}, M10.Gap n b (u ++ x :: w) → b + 2 ≤ x
  | [], _, h => h.1
  | t :: u, b, h => by
    have h1 : b + 2 ≤ t := h.1
    have := gap_le h.2
    omega
theorem gap_at {n x : Nat} {w : List Nat} : ∀ {u : List Nat} {b : Nat}, M10.Gap n b (u ++ x :: w) → M10.Gap n x w
  | [], _, h => h.2
  | _ :: _, _, h => gap_at h.2
theorem gap_unshift {N g : Nat} : ∀ (v : List Nat) (b : Nat), M10.Gap (N + g) (b + g) (v.map (· + g)) → M10.Gap N b v
  | [], b, h => by
    have h : b + g + 2 ≤ N + g := h
    show b + 2 ≤ N
    omega
  | t :: v, b, h => by
    have h1 : b + g + 2 ≤ t + g := h.1
    exact ⟨by omega, gap_unshift v t h.2⟩
/-- from a peak h places behind g on: the cuts from K places behind g on -/
theorem cuts_far {N g h K : Nat} {v : List Nat} (hK : h ≤ K) : ∀ (u : List Nat) (b : Nat), M10.Gap (N + g) b (u ++ (h + g) :: v.map (· + g)) →
    (cutsL (N + g) b (u ++ (h + g) :: v.map (· + g))).filter (fun s => decide (g + K ≤ s)) = ((cutsL N h v).filter (fun s => decide (K ≤ s))).map (· + g)
  | [], b, G => by
    have G1 : b + 2 ≤ h + g := G.1
    rw [List.nil_append, cutsL_cons, List.filter_append, filter_none (l := (M10.str (h + g - b) b).map (·.1)) (fun s hs => decide_eq_false (by have := str_mem (by omega) hs; omega)), List.nil_append,
      cutsL_shift g v h (gap_unshift v h G.2), filter_map_p]
    congr 1
    refine List.filter_congr fun s _ => ?_
    exact decide_eq_decide.mpr ⟨fun h => by omega, fun h => by omega⟩
  | t :: u, b, G => by
    have G1 : b + 2 ≤ t := G.1
    have G2 := gap_le G.2
    rw [List.cons_append, cutsL_cons, List.filter_append, filter_none (l := (M10.str (t - b) b).map (·.1)) (fun s hs => decide_eq_false (by have := str_mem (by omega) hs; omega)), List.nil_append, cuts_far hK u t G.2]
/-! ### peaks of rows with an equal beginning -/
theorem range'_cut (s a c : Nat) : List.range' s (a + c) = List.range' s a ++ List.range' (s + a) c := by
  induction a generalizing s with
  | zero => rw [Nat.zero_add, List.range'_zero, List.nil_append, Nat.add_zero]
  | succ a ih => rw [show a + 1 + c = a + c + 1 by omega, List.range'_succ, List.range'_succ, ih (s + 1), List.cons_append, show s + 1 + a = s + (a + 1) by omega]
theorem pks_near {ms ms' : List Nat} {L : Nat} (hl : L ≤ ms.length) (hl' : L ≤ ms'.length) (he : ∀ i, i < L → ms[i]? = ms'[i]?) : ∃ u v v', M10.pks ms = u ++ v ∧ M10.pks ms' = u ++ v' ∧ (∀ t ∈ v, L - 1 ≤ t) ∧ (∀ t ∈ v', L - 1 ≤ t) := by
  have part : ∀ {ms : List Nat}, L ≤ ms.length → M10.pks ms = (List.range' 2 (L - 1 - 2)).filter (M10.pk ms) ++ (List.range' (2 + (L - 1 - 2)) (ms.length - 3 - (L - 1 - 2))).filter (M10.pk ms) := fun {ms} h => by
    unfold M10.pks
    rw [← List.filter_append, ← range'_cut, show L - 1 - 2 + (ms.length - 3 - (L - 1 - 2)) = ms.length - 3 by omega]
  refine ⟨_, _, (List.range' (2 + (L - 1 - 2)) (ms'.length - 3 - (L - 1 - 2))).filter (M10.pk ms'), part hl, ?_, fun t ht => ?_, fun t ht => ?_⟩
  · rw [part hl']
    congr 1
    refine List.filter_congr fun i hi => ?_
    obtain ⟨j, hj, rfl⟩ := List.mem_range'.mp hi
    unfold M10.pk
    rw [he _ (by omega), he _ (by omega), he _ (by omega)]
  · obtain ⟨j, hj, rfl⟩ := List.mem_range'.mp (List.mem_filter.mp ht).1
    omega
  · obtain ⟨j, hj, rfl⟩ := List.mem_range'.mp (List.mem_filter.mp ht).1
    omega
/-! ### peaks of rows with an equal end -/
theorem noPk_of : ∀ w : List Nat, (∀ i a b c, w[i]? = some a → w[i + 1]? = some b → w[i + 2]? = some c → ¬ (a < b ∧ c < b)) → NoPk w
  | [], _ => trivial
  | [_], _ => trivial
  | [_, _], _ => trivial
  | a :: b :: c :: r, h => ⟨h 0 a b c rfl rfl rfl, noPk_of (b :: c :: r) fun i x y z h1 h2 h3 => h (i + 1) x y z (by simpa using h1) (by simpa using h2) (by simpa using h3)⟩
theorem unl_of : ∀ w : List Nat, (∀ i a b, w[i]? = some a → w[i + 1]? = some b → a ≠ b) → M07.Unl w
  | [], _ => trivial
  | [_], _ => trivial
  | a :: b :: r, h => ⟨h 0 a b rfl rfl, unl_of (b :: r) fun i x y h1 h2 => h (i + 1) x y (by simpa using h1) (by simpa using h2)⟩
theorem peak_in {ms : List Nat} {b : Nat} (hl : b + 12 ≤ ms.length) (u : M07.Unl ms) (h5 : ∀ x ∈ ms, x ≤ 5) : ∃ j, b + 1 ≤ j ∧ j ≤ b + 10 ∧ M10.pk ms j = true := by
  refine Classical.byContradiction fun no => ?_
  have no : ∀ j, b + 1 ≤ j → j ≤ b + 10 → M10.pk ms j = false := fun j h1 h2 => by
    cases e : M10.pk ms j with
    | false => rfl
    | true => exact absurd ⟨j, h1, h2, e⟩ no
  have lw : ((ms.drop b).take 12).length = 12 := by
    rw [List.length_take, List.length_drop]
    omega
  have get : ∀ i x, ((ms.drop b).take 12)[i]? = some x → i < 12 ∧ ms[b + i]? = some x := fun i x h => by
    have hi := (List.getElem?_eq_some_iff.mp h).1
    rw [lw] at hi
    rw [List.getElem?_take_of_lt hi, List.getElem?_drop] at h
    exact ⟨hi, h⟩
  have n : NoPk ((ms.drop b).take 12) := noPk_of _ fun i x y z h1 h2 h3 k => by
    obtain ⟨_, g1⟩ := get _ _ h1
    obtain ⟨_, g2⟩ := get _ _ h2
    obtain ⟨l3, g3⟩ := get _ _ h3
    have := no (b + (i + 1)) (by omega) (by omega)
    unfold M10.pk at this
    rw [show b + (i + 1) - 1 = b + i by omega, g1, g2, show b + (i + 1) + 1 = b + (i + 2) by omega, g3] at this
    simp only [Bool.and_eq_false_iff, decide_eq_false_iff_not] at this
    omega
  have uw : M07.Unl ((ms.drop b).take 12) := unl_of _ fun i x y h1 h2 => by
    obtain ⟨_, g1⟩ := get _ _ h1
    obtain ⟨_, g2⟩ := get _ _ h2
    exact M07.Unl.get u g1 (by rw [show b + i + 1 = b + (i + 1) by omega]; exact g2)
  have w5 : ∀ x ∈ (ms.drop b).take 12, x ≤ 5 := fun x hx => h5 x (List.mem_of_mem_drop (List.mem_of_mem_take hx))
  match e : (ms.drop b).take 12, lw, n, uw, w5 with
  | [], lw, _, _, _ => cases lw
  | a :: r, lw, n, uw, w5 =>
    have := valley r a n uw w5
    have a5 := w5 a List.mem_cons_self
    rw [List.length_cons] at lw
    omega
theorem range'_shift (g : Nat) : ∀ (c a : Nat), List.range' (a + g) c = (List.range' a c).map (· + g)
  | 0, _ => rfl
  | c + 1, a => by
    rw [List.range'_succ, List.range'_succ, List.map_cons, show a + g + 1 = a + 1 + g by omega, range'_shift g c (a + 1)]
/-- the peaks from one of them on -/
theorem pks_at {ms : List Nat} {g h R : Nat} (l : ms.length = g + R) (h2 : 2 ≤ h) (hR : h + 2 ≤ R) (p : M10.pk ms (h + g) = true) : ∃ u, M10.pks ms = u ++ (h + g) :: ((List.range' (h + 1) (R - 2 - h)).filter fun j => M10.pk ms (j + g)).map (· + g) := by
  refine ⟨(List.range' 2 (g + h - 2)).filter (M10.pk ms), ?_⟩
  unfold M10.pks
  rw [show ms.length - 3 = (g + h - 2) + (R - 2 - h + 1) by omega, range'_cut, List.filter_append, show 2 + (g + h - 2) = h + g by omega, List.range'_succ, List.filter_cons_of_pos p, show h + g + 1 = h + 1 + g by omega, range'_shift, filter_map_p]
/-- cuts of rows whose marks begin alike -/
theorem near_cuts {ms ms' : List Nat} {L : Nat} (hl : L ≤ ms.length) (hl' : L ≤ ms'.length) (n2 : 2 ≤ ms.length) (n2' : 2 ≤ ms'.length) (he : ∀ i, i < L → ms[i]? = ms'[i]?) :
    (cutsL ms.length 0 (M10.pks ms)).filter (fun s => decide (s + 3 ≤ L)) = (cutsL ms'.length 0 (M10.pks ms')).filter (fun s => decide (s + 3 ≤ L)) := by
  obtain ⟨u, v, v', e, e', hv, hv'⟩ := pks_near hl hl' he
  have g := M10.pks_gap n2
  have g' := M10.pks_gap n2'
  rw [e] at g ⊢
  rw [e'] at g' ⊢
  rcases Nat.eq_zero_or_pos L with z | z
  · rw [filter_none (fun s _ => decide_eq_false (by omega)), filter_none (fun s _ => decide_eq_false (by omega))]
  · have := cuts_near (M := L - 1) hv hv' (by omega) (by omega) u 0 g g'
    have cg : ∀ l : List Nat, l.filter (fun s => decide (s + 3 ≤ L)) = l.filter (fun s => decide (s + 2 ≤ L - 1)) := fun l => List.filter_congr fun s _ => decide_eq_decide.mpr ⟨fun h => by omega, fun h => by omega⟩
    rw [cg, cg]
    exact this
/-- cuts of rows whose marks end alike, from the sixth place of the end on -/
theorem far_cuts {ms ms' : List Nat} {g g' R : Nat} (l : ms.length = g + R) (l' : ms'.length = g' + R) (n2 : 2 ≤ ms.length) (n2' : 2 ≤ ms'.length) (u : M07.Unl ms) (h5 : ∀ x ∈ ms, x ≤ 5) (same : ∀ j, 5 ≤ j → ms[j + g]? = ms'[j + g']?) :
    ∃ w : List Nat, (cutsL ms.length 0 (M10.pks ms)).filter (fun s => decide (g + 15 ≤ s)) = w.map (· + g) ∧ (cutsL ms'.length 0 (M10.pks ms')).filter (fun s => decide (g' + 15 ≤ s)) = w.map (· + g') := by
  have G := M10.pks_gap n2
  have G' := M10.pks_gap n2'
  rcases Nat.lt_or_ge R 17 with c | c
  · refine ⟨[], ?_, ?_⟩
    · rw [filter_none (fun s hs => decide_eq_false (by have := cutsL_mem G hs; omega))]
      rfl
    · rw [filter_none (fun s hs => decide_eq_false (by have := cutsL_mem G' hs; omega))]
      rfl
  · obtain ⟨j, j1, j2, pj⟩ := peak_in (b := g + 5) (by omega) u h5
    obtain ⟨h, rfl⟩ : ∃ h, j = h + g := ⟨j - g, by omega⟩
    have pk_same : ∀ j, 6 ≤ j → M10.pk ms (j + g) = M10.pk ms' (j + g') := fun j hj => by
      unfold M10.pk
      have a1 := same (j - 1) (by omega)
      have a2 := same j (by omega)
      have a3 := same (j + 1) (by omega)
      rw [show j + g - 1 = j - 1 + g by omega, show j + g' - 1 = j - 1 + g' by omega, show j + g + 1 = j + 1 + g by omega, show j + g' + 1 = j + 1 + g' by omega, a1, a2, a3]
    have pj' : M10.pk ms' (h + g') = true := by rw [← pk_same h (by omega)]; exact pj
    obtain ⟨x, e⟩ := pks_at l (by omega) (show h + 2 ≤ R by omega) pj
    obtain ⟨x', e'⟩ := pks_at l' (by omega) (show h + 2 ≤ R by omega) pj'
    have ev : (List.range' (h + 1) (R - 2 - h)).filter (fun j => M10.pk ms' (j + g')) = (List.range' (h + 1) (R - 2 - h)).filter (fun j => M10.pk ms (j + g)) := List.filter_congr fun k hk => by
      obtain ⟨i, hi, rfl⟩ := List.mem_range'.mp hk
      exact (pk_same _ (by omega)).symm
    rw [ev] at e'
    rw [e, l, Nat.add_comm g R] at G
    rw [e', l', Nat.add_comm g' R] at G'
    refine ⟨(cutsL R h ((List.range' (h + 1) (R - 2 - h)).filter fun j => M10.pk ms (j + g))).filter (fun s => decide (15 ≤ s)), ?_, ?_⟩
    · rw [e, l, Nat.add_comm g R]
      exact cuts_far (K := 15) (by omega) x 0 G
    · rw [e', l', Nat.add_comm g' R]
      exact cuts_far (K := 15) (by omega) x' 0 G'
/-! ### marks are small -/
theorem low_lt : ∀ (n k a b : Nat), a ≠ b → a < 2 ^ k → b < 2 ^ k → M07.low n a b + 1 ≤ k
  | 0, k, a, b, h, h1, h2 => by
    have k0 : k ≠ 0 := fun z => by
      rw [z] at h1 h2
      omega
    show 0 + 1 ≤ k
    omega
  | n + 1, k, a, b, h, h1, h2 => by
    have k0 : k ≠ 0 := fun z => by
      rw [z] at h1 h2
      omega
    obtain ⟨j, rfl⟩ : ∃ j, k = j + 1 := ⟨k - 1, by omega⟩
    rw [Nat.pow_succ] at h1 h2
    rw [M07.low]
    split
    · have := low_lt n j (a / 2) (b / 2) (by omega) (by omega) (by omega)
      omega
    · omega
theorem mk_le {k a b : Nat} (h : a ≠ b) (h1 : a < 2 ^ k) (h2 : b < 2 ^ k) : M07.mk a b + 1 ≤ 2 * k := by
  have := low_lt (a + b + 1) k a b h h1 h2
  unfold M07.mk
  omega
theorem marks_le {k : Nat} : ∀ (a : Nat) (l : List Nat), M07.Unl (a :: l) → (∀ x ∈ a :: l, x < 2 ^ k) → ∀ x ∈ M07.marks a l, x + 1 ≤ 2 * k
  | a, [], _, _, x, hx => nomatch hx
  | a, b :: r, u, h, x, hx => by
    rw [M07.marks] at hx
    rcases List.mem_cons.mp hx with rfl | hx
    · exact mk_le u.1 (h a List.mem_cons_self) (h b (List.mem_cons_of_mem _ List.mem_cons_self))
    · exact marks_le b r u.2 (fun y hy => h y (List.mem_cons_of_mem _ hy)) x hx
theorem round_le {k : Nat} (k1 : 1 ≤ k) {l : List Nat} (u : M07.Unl l) (h : ∀ x ∈ l, x < 2 ^ k) : ∀ x ∈ M07.round l, x + 1 ≤ 2 * k := fun x hx => by
  cases l with
  | nil => cases hx
  | cons a r =>
    rw [M07.round] at hx
    rcases List.mem_cons.mp hx with rfl | hx
    · omega
    · exact marks_le a r u h x hx
/-- after four rounds, marks below 2 ** 64 are at most 5 -/
theorem rounds_le {l : List Nat} (u : M07.Unl l) (h : ∀ x ∈ l, x < 2 ^ 64) : ∀ x ∈ M07.round (M07.round (M07.round (M07.round l))), x ≤ 5 := fun x hx => by
  have u1 := M07.round_unl _ u
  have u2 := M07.round_unl _ u1
  have u3 := M07.round_unl _ u2
  have b1 : ∀ x ∈ M07.round l, x < 2 ^ 7 := fun x hx => by have := round_le (by decide) u h x hx; omega
  have b2 : ∀ x ∈ M07.round (M07.round l), x < 2 ^ 4 := fun x hx => by have := round_le (by decide) u1 b1 x hx; omega
  have b3 : ∀ x ∈ M07.round (M07.round (M07.round l)), x < 2 ^ 3 := fun x hx => by have := round_le (by decide) u2 b2 x hx; omega
  have := round_le (by decide) u3 b3 x hx
  omega
end M82

set_option Elab.async false
set_option linter.all false
set_option maxRecDepth 100000
set_option maxHeartbeats 4000000
namespace Loc
open PySem PySem.Spec PyProof.Rows L2
/-- t.index(i), the first place; t of ints -/
theorem mt_tup_indexI {X : Cx} : MtR X "tuple.index" (fun x xs H Q => ∃ p, ∃ ys : List Int, ∃ z j, x = .ref p ∧ xs = [.int z] ∧ SqT X.K H p (ys.map V.int) ∧ ys[j]? = some z ∧ (∀ m, m < j → ys[m]? ≠ some z) ∧ Q (.int (j : Nat)) H) := by
  intro pins s σ H x xs v us Q I rx rs h
  obtain ⟨p, ys, z, j, rfl, rfl, hq, hy, hno, q⟩ := h
  cases rx
  obtain ⟨u, rfl, t, rfl⟩ := vals1 rs
  obtain ⟨its, r, ⟨⟨cls, dd, dt, sl⟩, ho, hc, n, hd⟩, _⟩ := I.tuple hq
  simp only at hc hd
  subst hc hd
  have size : its.toArray.size = ys.length := by rw [List.size_toArray, ← r.length, List.length_map]
  have jn : j < its.toArray.size := by rw [size]; exact (List.getElem?_eq_some_iff.mp hy).1
  have item : ∀ (m : Nat) (hm : m < its.toArray.size), ∃ y t', ys[m]? = some y ∧ its.toArray[m] = Value.int y t' := fun m hm => by
    have hm' : m < ys.length := by rw [← size]; exact hm
    obtain ⟨w, hw, t', hw'⟩ := r.get (i := m) (x := .int ys[m]) (by simp [hm'])
    refine ⟨ys[m], t', List.getElem?_eq_getElem hm', ?_⟩
    have e := (List.getElem?_eq_some_iff.mp hw).2
    rw [← hw', ← e]
    simp
  have flat : (ys.map V.int).all flatV = true := by
    rw [List.all_map]
    exact List.all_eq_true.mpr fun _ _ => rfl
  refine call_meets PySem.F.slot_tuple_index ⟨_, ho, rfl⟩ PySem.F.entry_tuple_index (PySem.F.args_tuple_index_2 _ _) (TI.tuple_indexAt p its.toArray n dd sl (.int z t) (eqU (.int z)) j jn ?_ ?_)
    ⟨ho, fun w hw => mem_eqAt (x := .int z) ⟨t, rfl⟩ rfl r flat w (by simpa using hw), ⟨.int (j : Nat), H, I.tok _, ⟨_, rfl⟩, q⟩⟩
  · obtain ⟨y, t', h1, h2⟩ := item j jn
    rw [hy] at h1
    cases h1
    rw [h2]
    show decide _ = true
    exact decide_eq_true rfl
  · intro m hm hmj
    obtain ⟨y, t', h1, h2⟩ := item m hm
    rw [h2]
    show decide _ = false
    exact decide_eq_false fun e => hno m hmj (e ▸ h1)
/-- a tuple that is known to be a plain one -/
def SqZ (H : Hp) (a : Addr) (xs : List V) : Prop := ∃ o : Obj, H a = some (.frz o (.tup xs)) ∧ o.dict = none ∧ o.cls = .type "tuple"
theorem SqZ.sqt {K : PySem.W.Frag} {H : Hp} {a : Addr} {xs : List V} (h : SqZ H a xs) : SqT K H a xs := by
  obtain ⟨o, e, _⟩ := h
  exact .inl (.inr ⟨o, e⟩)
theorem SqZ.same {H H' : Hp} {a : Addr} {xs : List V} (h : SqZ H a xs) (s : Same H H') : SqZ H' a xs := by
  obtain ⟨o, e, r⟩ := h
  exact ⟨o, s _ _ e, r⟩
theorem call_tuple_ofZ {X : Cx} : CallR X (.type "tuple") (fun xs H Q => ∃ p ys, xs = [.ref p] ∧ SqL X.K H p ys ∧ ∀ l, H l = none → ∀ H', Same H H' → SqZ H' l ys → Q (.ref l) H') := by
  intro pins s σ H xs us Q I r h
  obtain ⟨p, ys, rfl, hq, q⟩ := h
  obtain ⟨u, rfl, rx⟩ := vals1 r
  cases rx
  obtain ⟨its, r', pl, hz⟩ := I.list hq
  have lens := r'.length
  refine call_tuple_list pl.isList (fun h' kp => ?_) (by simp only [List.size_toArray] <;> omega)
  have J1 : Inv X pins σ H { s with heap := h' } := I.kept (t' := s.toks) kp
  have at' : (h'.push { cls := .type "tuple", data := .seq its.toArray }).get? h'.objs.size = some { cls := .type "tuple", data := .seq its.toArray } := Heap.get?_push_size _ (by rfl)
  have J2 : Inv X pins σ (upd H h'.objs.size (.frz { cls := .type "tuple", data := .seq its.toArray } (.tup ys))) { s with heap := h'.push { cls := .type "tuple", data := .seq its.toArray } } :=
    J1.laid (t' := s.toks) (fun b o e => Heap.get?_push_of_some _ e) (Nat.le_refl _) ⟨at', hz, its, r', IsTup.new _ _⟩
  have fresh := J1.hok.fresh (Nat.le_refl h'.objs.size)
  exact ⟨.ref h'.objs.size, _, J2, rfl, q _ fresh _ (sameN fresh) ⟨_, upd_same, rfl, rfl⟩⟩
def tBMZ (r : V → List V → Hp → VK → Prop) (to : TE) (t : TA) : TE := fun σ H Q => to σ H fun x H1 => (∃ p xs, x = .ref p ∧ SqZ H1 p xs) ∧ t σ H1 fun vs H2 => r x vs H2 Q
/-- a method of a plain tuple, with arguments -/
theorem pe_bmZ {X : Cx} {o e : Expr} {es : List Expr} {to : TE} {t : TA} {apos cpos : Pos} {id : String} {name : Str} {r : V → List V → Hp → VK → Prop} (pa : PlainAttrs "tuple") (slot : Slot "tuple" name id) (hty : typeOf (.builtin id) = pure (.type "method_descriptor")) (hm : MtR X id r) (ho : PE X o to) (ha : PA X (e :: es) t)
    (hbase : attributeBase o name X.env (eval o X.env) = eval o X.env := by rfl)
    (few : ((backTo cpos (starEach (e :: es) X.env)).all (fun x => !x.1) && (backToKw cpos (keywordEach [] X.env)).all (fun x => x.1.isSome) && decide ((e :: es).length + ([] : List Keyword).length + (if ([] : List Keyword).isEmpty then 0 else 1) < 30)) = true := by rfl)
    (line : (apos.endLine == cpos.line) = true := by rfl) (star : starEach (e :: es) X.env = (false, eval e X.env) :: starEach es X.env := by rfl) (plain : (backTo cpos (starEach es X.env)).any (·.1) = false := by rfl) :
    PE X (.Call (.Attribute o name apos) (e :: es) [] cpos) (tBMZ r to t) := by
  refine ⟨fun pins s σ H Q I h => ?_⟩
  refine wpAny_Call_method_late hbase few line rfl (thn (ho.run pins s σ H _ I h) fun v s1 ⟨x, H1, I1, r1, ty, q1⟩ => ?_)
  obtain ⟨p, xs, rfl, ob, hob, hd, hc⟩ := ty
  cases r1
  have ge : s1.heap.get? p = some ob := (I1.hok p _ hob).1
  refine ⟨"tuple", id, pa, slot, hty, ⟨ob, ge, hc⟩, fun a ea => ?_, ?_⟩
  · cases ea
    exact ⟨ob, ge, hd⟩
  have hA := ha.run cpos pins s1 σ H1 _ I1 q1
  rw [star] at hA ⊢
  refine Calls.callWith_builtin (by show (false || (backTo cpos (starEach es X.env)).any (·.1)) = false; rw [plain] <;> rfl) (Calls.evalArgs_plain ?_)
  exact thn hA fun us s2 ⟨vs, H2, I2, r2, q2⟩ => hm pins s2 σ H2 (.ref p) vs (.ref p) us Q I2 rfl r2 q2
end Loc

set_option Elab.async false
set_option linter.all false
set_option maxRecDepth 100000
set_option maxHeartbeats 4000000
namespace Loc
open PySem PySem.Spec PyProof.Rows L2
theorem tuple_mulE (l : Addr) (n : Nat) (dd : Option Addr) (sl : Array (Option Value)) (x : Int) (u : Tok) (c0 : (decide (x < -(2 ^ 63)) || decide (x ≥ 2 ^ 63)) = false) :
    Meets (Builtin.«tuple.__mul__» ⟨[.ref l, .int x u], []⟩) (fun _ R s => s.heap.get? l = some { cls := .type "tuple", dict := dd, data := .seq #[] n, slots := sl } ∧ R (.ok (.ret (Value.ref l))) s) :=
  .of_wp fun prog w A R s h => by
    obtain ⟨hp, g, d, tk, os⟩ := s
    obtain ⟨hl, h⟩ := h
    have f1 := AutoSeq1.idx_int
    wp_walk using wpAny_loadPart' hl
    repeat (first
      | (refine wpAny_ite_false (decide_eq_false (by rw [c0]; exact Bool.false_ne_true)) ?_; wp_walk using wpAny_loadPart' hl))
    all_goals exact ⟨_, rfl, h⟩
theorem tuple_mulZ (l : Addr) (items : Array Value) (n : Nat) (dd : Option Addr) (sl : Array (Option Value)) (u : Tok) (ne : items.isEmpty = false) :
    Meets (Builtin.«tuple.__mul__» ⟨[.ref l, .int 0 u], []⟩) (fun _ R s => s.heap.get? l = some { cls := .type "tuple", dict := dd, data := .seq items n, slots := sl } ∧
      R (.ok (.ret (Value.ref s.heap.objs.size))) { s with heap := s.heap.push { cls := Value.type "tuple", data := Data.seq #[] }, toks := s.toks }) :=
  .of_wp fun prog w A R s h => by
    obtain ⟨hp, g, d, tk, os⟩ := s
    obtain ⟨hl, h⟩ := h
    have f1 := AutoSeq1.idx_int
    wp_walk using wpAny_loadPart' hl
    repeat (first
      | (refine wpAny_ite_false (decide_eq_false (by rw [ne]; decide)) ?_; wp_walk using wpAny_loadPart' hl))
    all_goals exact ⟨_, rfl, h⟩
/-- a tuple, written so many times, none too -/
def rRepTA (K : PySem.W.Frag) : R2 := fun x y H Q => ∃ l k xs, x = .ref l ∧ y = .int k ∧ SqT K H l xs ∧ 0 ≤ k ∧ k ≤ 1000 ∧ xs.length ≤ 1000 ∧ ∀ H' p, Same H H' → SqT K H' p (List.replicate k.toNat xs).flatten → Q (.ref p) H'
theorem op_repTA {X : Cx} : OpR X (binaryOp .Mult) (rRepTA X.K) := by
  intro pins s σ H x y v u Q I rx ry h
  obtain ⟨l, k, xs, rfl, rfl, tup, k0, most, short, q⟩ := h
  by_cases ne : xs = []
  · subst ne
    cases rx
    obtain ⟨w, rfl⟩ := ry
    obtain ⟨ys, r, ⟨⟨cls, dd, data, sl⟩, hob, hcl, n, hdt⟩, _⟩ := I.tuple tup
    simp only at hcl hdt
    subst hcl hdt
    cases r
    have b0 : (decide (k < -(2 ^ 63)) || decide (k ≥ 2 ^ 63)) = false := by
      rw [Bool.or_eq_false_iff]
      exact ⟨decide_eq_false (by omega), decide_eq_false (by omega)⟩
    refine wpAny_binaryOp_repeat_ref (T := "tuple") (U := "int") (by decide) ⟨_, hob, rfl⟩ (fun s' => typeIs_int s' k w) noFill_tuple_mul PySem.F.fills_int_mul PySem.F.slot_int_rmul
      repeat_tuple PySem.F.slot_int_index.lookup ?_
    refine call_meets PySem.F.slot_int_rmul (typeIs_int s k w) PySem.F.entry_int_rmul (PySem.F.args_int_rmul_2 _ _) (int_rmul_tuple k w l #[] n dd sl) ⟨hob, rfl, ⟨_, hob, rfl⟩, ?_⟩
    refine call_meets PySem.F.slot_tuple_mul ⟨_, hob, rfl⟩ PySem.F.entry_tuple_mul (PySem.F.args_tuple_mul_2 _ _) (tuple_mulE l n dd sl k w b0) ⟨hob, ?_⟩
    refine ⟨.ref l, H, I, rfl, q H l (Same.refl H) ?_⟩
    have : ∀ m : Nat, (List.replicate m ([] : List V)).flatten = [] := fun m => by
      induction m with
      | zero => rfl
      | succ m ih => rw [List.replicate_succ, List.flatten_cons, ih]; rfl
    rw [this]
    exact tup
  by_cases k1 : 1 ≤ k
  · exact op_repT1 pins s σ H _ _ v u Q I rx ry ⟨l, k, xs, rfl, rfl, tup, ne, k1, most, short, q⟩
  · have kz : k = 0 := by omega
    subst kz
    cases rx
    obtain ⟨w, rfl⟩ := ry
    obtain ⟨ys, r, ⟨⟨cls, dd, data, sl⟩, hob, hcl, n, hdt⟩, _⟩ := I.tuple tup
    simp only at hcl hdt
    subst hcl hdt
    have filled : ys.toArray.isEmpty = false := by
      cases ys with
      | nil =>
        have := r.length
        exact absurd (List.eq_nil_of_length_eq_zero this) ne
      | cons a b => rfl
    refine wpAny_binaryOp_repeat_ref (T := "tuple") (U := "int") (by decide) ⟨_, hob, rfl⟩ (fun s' => typeIs_int s' 0 w) noFill_tuple_mul PySem.F.fills_int_mul PySem.F.slot_int_rmul
      repeat_tuple PySem.F.slot_int_index.lookup ?_
    refine call_meets PySem.F.slot_int_rmul (typeIs_int s 0 w) PySem.F.entry_int_rmul (PySem.F.args_int_rmul_2 _ _) (int_rmul_tuple 0 w l ys.toArray n dd sl) ⟨hob, rfl, ⟨_, hob, rfl⟩, ?_⟩
    refine call_meets PySem.F.slot_tuple_mul ⟨_, hob, rfl⟩ PySem.F.entry_tuple_mul (PySem.F.args_tuple_mul_2 _ _) (tuple_mulZ l ys.toArray n dd sl w filled) ⟨hob, ?_⟩
    have fresh : H s.heap.objs.size = none := I.hok.fresh (Nat.le_refl _)
    exact ⟨.ref s.heap.objs.size, _, I.laid (t' := s.toks) (o := .tup []) (fun b ob z => Heap.get?_push_of_some _ z) (Nat.le_refl _) ⟨by decide, [], .nil, IsTup.new _ _⟩, rfl, q _ _ (sameN fresh) (.inl (.inl upd_same))⟩
end Loc

set_option Elab.async false
set_option linter.all false
set_option maxRecDepth 100000
namespace C62
open PySem PySem.Spec PyProof.Rows L2 Loc RZ
def topS (i : Nat) : Stmt := PySem.Challenge.pw_localblocks_k62_texts_of_trees.main.body.getD i (.Pass ⟨0, 0, 0, 0⟩)
abbrev sWhole : Stmt := topS 6
abbrev sElement : Stmt := topS 7
abbrev sCount : Stmt := topS 8
abbrev sIsRun : Stmt := topS 9
abbrev sIsBlk : Stmt := topS 10
abbrev sBase : Stmt := topS 11
abbrev sRunOf : Stmt := topS 12
abbrev sIsNode : Stmt := topS 13
abbrev sParts : Stmt := topS 14
abbrev sFit : Stmt := topS 15
abbrev sLevel : Stmt := topS 16
abbrev sText : Stmt := topS 17
abbrev s_node_with : Stmt := topS 18
abbrev s__closed : Stmt := topS 19
abbrev s__read_element : Stmt := topS 20
abbrev s__read_count : Stmt := topS 21
abbrev s__digits_end : Stmt := topS 22
abbrev s_whole_with : Stmt := topS 23
abbrev sFirst : Stmt := topS 27
abbrev sFM : Stmt := topS 28
abbrev sFU : Stmt := topS 29
abbrev sCodeAt : Stmt := topS 30
abbrev sNext : Stmt := topS 31
abbrev sNm : Stmt := topS 32
abbrev sMarks : Stmt := topS 33
abbrev sPeaks : Stmt := topS 34
abbrev sCuts : Stmt := topS 35
abbrev sBlocks : Stmt := topS 36
abbrev sMade : Stmt := topS 37
abbrev sIsRuns : Stmt := topS 40
abbrev sIsPair : Stmt := topS 41
abbrev sRows : Stmt := topS 42
abbrev sTree : Stmt := topS 43
abbrev s_melted : Stmt := topS 44
abbrev sCnt : Stmt := topS 45
abbrev sPairs : Stmt := topS 46
abbrev sIsTree : Stmt := topS 47
abbrev s_show_tree : Stmt := topS 50
abbrev s_read_tree : Stmt := topS 51
abbrev s_repeated : Stmt := topS 55
abbrev s__with_runs : Stmt := topS 56
abbrev s__cut : Stmt := topS 57
abbrev sPot : Stmt := topS 59
abbrev sTake : Stmt := topS 60
abbrev sOf : Stmt := topS 61
abbrev sSeq : Stmt := topS 62
abbrev sLRuns : Stmt := topS 63
abbrev sWide : Stmt := topS 64
abbrev sLText : Stmt := topS 65
abbrev sLFirst : Stmt := topS 66
abbrev sRound : Stmt := topS 67
abbrev sLMarks : Stmt := topS 68
abbrev sLPieces : Stmt := topS 69
abbrev sJoined : Stmt := topS 70
abbrev sLRows : Stmt := topS 71
abbrev sLTree : Stmt := topS 72
abbrev sRight : Stmt := topS 73
abbrev sLaw : Stmt := topS 74
end C62

set_option Elab.async false
set_option linter.all false
set_option maxRecDepth 100000
namespace C62
open PySem PySem.Spec PyProof.Rows L2 Loc RZ
/-! ### the program's nodes -/
section
variable {P : Program} {w : World} {K : PySem.W.Frag} {mg : Str → Option Value} {base : Heap}
theorem len_cd5 {a : Nd} {l : Nat} (h : Ok a l) (hw : wide l ≤ 5000000) : (txt a).length ≤ 5000000 ∧ (txt a).length ≤ sizeLine := by
  have := txt_len a l h
  have : (txt a).length ≤ 5000000 := by split at this <;> omega
  exact ⟨this, Nat.le_trans this (by decide)⟩
def spIsRun (K : PySem.W.Frag) : Sp := fun vs H Q _ => ∃ v n, vs = [v] ∧ NdV K H v n ∧ ∀ H', Same H H' → Q (.bl n.isRun) H'
def spIsBlk (K : PySem.W.Frag) : Sp := fun vs H Q _ => ∃ v n, vs = [v] ∧ NdV K H v n ∧ ∀ H', Same H H' → Q (.bl n.isBlk) H'
theorem scIsRun : FnScope ["value"] ["value"] (defScope sIsRun) := ⟨rfl, rfl, rfl, by decide +kernel, rfl, by decide +kernel, by decide +kernel⟩
theorem scIsBlk : FnScope ["value"] ["value"] (defScope sIsBlk) := ⟨rfl, rfl, rfl, by decide +kernel, rfl, by decide +kernel, by decide +kernel⟩
theorem shaped_one (s : Str) (h : PyData.canLay0 (.str s) = true) : SeqAt.shaped (.tuple [.str s]) = true := by
  unfold SeqAt.shaped
  rw [Bool.and_eq_true]
  exact ⟨by simp only [PyData.canLay0, PyData.canLayAll0] at h ⊢; rw [h]; rfl, decide_eq_true (by simp [PyData.depth, PyData.depthAll])⟩
theorem eqv_one (s t : Str) : PyData.eqv (.tuple [.str s]) (.tuple [.str t]) = (s == t) := by simp [PyData.eqv, PyData.eqvAll]
theorem ok_isrun {f : Addr} {fd : FuncData} {k : Nat} (F : Fun K "is_run" "is_run" sIsRun f fd) (mi : mg "isinstance" = none) (mt : mg "tuple" = none) : FnOk P w K mg base CX0 (k + 1) f fd ["value"] (spIsRun K) := by
  refine F.ok scIsRun (fun vs H Q E h => ?_) (fun cdv A outer s H vs Q E hr h => ?_)
  · obtain ⟨v, n, rfl, _⟩ := h
    rfl
  · obtain ⟨v, n, rfl, hn, q⟩ := h
    refine ⟨_, pss_one (ps_ret (pe_and (pe_callB call_isi (by rfl) mi PyProof.Rows.boot_isinstance (pa_cons (pv 0) (pa_cons (pe_bltn (v := .ty "tuple") (by rfl) mt PyProof.Rows.boot_tuple rfl) pa_nil)))
      (pe_one (pe_cmpR (op_eqD hr.units) (pe_slice sl_tupA (pv 0) po_none (po_some pe_int)) (pe_tup (pa_cons pe_str pa_nil)) (nomark _))))), ?_⟩
    cases n with
    | el n =>
      have ev := hn.el
      subst ev
      exact ⟨_, rfl, _, _, _, _, false, rfl, .ty "tuple", .base (.int _), kit_ty (by decide +kernel), _, rfl, q H (Same.refl H)⟩
    | run b c =>
      obtain ⟨a, v2, rfl, h1, h2⟩ := hn.run
      refine ⟨_, rfl, _, _, _, _, true, rfl, .ty "tuple", Loc.SqT.ty h1, kit_ty (by decide +kernel), _, rfl, ?_⟩
      refine ⟨.ref a, rfl, 1, rfl, a, _, rfl, h1, fun hw => absurd hw.2 (show ¬ HT.sIx 3 3 (some 1) = 3 by decide), fun hw p1 n1 => ⟨(show 1 ≤ sizeLine from by decide), fun p2 n2 => ?_⟩⟩
      refine ⟨.tuple [.str "run"], .tuple [.str "run"], .tup (.inl (.inl (sameN n2 _ _ upd_same))) (.cons (.str _) .nil), .tup (.inl (.inl upd_same)) (.cons (.str _) .nil), shaped_one _ str_run_ok.1, shaped_one _ str_run_ok.1, ?_⟩
      rw [eqv_one, beq_self_eq_true]
      exact q _ ((sameN n1).trans (sameN n2))
    | blk ps =>
      obtain ⟨a, b, vs, rfl, h1, h2, h3⟩ := hn.blk
      refine ⟨_, rfl, _, _, _, _, true, rfl, .ty "tuple", Loc.SqT.ty h1, kit_ty (by decide +kernel), _, rfl, ?_⟩
      refine ⟨.ref a, rfl, 1, rfl, a, _, rfl, h1, fun hw => absurd hw.2 (show ¬ HT.sIx 2 2 (some 1) = 2 by decide), fun hw p1 n1 => ⟨(show 1 ≤ sizeLine from by decide), fun p2 n2 => ?_⟩⟩
      refine ⟨.tuple [.str "block"], .tuple [.str "run"], .tup (.inl (.inl (sameN n2 _ _ upd_same))) (.cons (.str _) .nil), .tup (.inl (.inl upd_same)) (.cons (.str _) .nil), shaped_one _ str_run_ok.2, shaped_one _ str_run_ok.1, ?_⟩
      rw [eqv_one, unlike_sorts.2]
      exact q _ ((sameN n1).trans (sameN n2))
theorem ok_isblk {f : Addr} {fd : FuncData} {k : Nat} (F : Fun K "is_block" "is_block" sIsBlk f fd) (mi : mg "isinstance" = none) (mt : mg "tuple" = none) : FnOk P w K mg base CX0 (k + 1) f fd ["value"] (spIsBlk K) := by
  refine F.ok scIsBlk (fun vs H Q E h => ?_) (fun cdv A outer s H vs Q E hr h => ?_)
  · obtain ⟨v, n, rfl, _⟩ := h
    rfl
  · obtain ⟨v, n, rfl, hn, q⟩ := h
    refine ⟨_, pss_one (ps_ret (pe_and (pe_callB call_isi (by rfl) mi PyProof.Rows.boot_isinstance (pa_cons (pv 0) (pa_cons (pe_bltn (v := .ty "tuple") (by rfl) mt PyProof.Rows.boot_tuple rfl) pa_nil)))
      (pe_one (pe_cmpR (op_eqD hr.units) (pe_slice sl_tupA (pv 0) po_none (po_some pe_int)) (pe_tup (pa_cons pe_str pa_nil)) (nomark _))))), ?_⟩
    cases n with
    | el n =>
      have ev := hn.el
      subst ev
      exact ⟨_, rfl, _, _, _, _, false, rfl, .ty "tuple", .base (.int _), kit_ty (by decide +kernel), _, rfl, q H (Same.refl H)⟩
    | run b c =>
      obtain ⟨a, v2, rfl, h1, h2⟩ := hn.run
      refine ⟨_, rfl, _, _, _, _, true, rfl, .ty "tuple", Loc.SqT.ty h1, kit_ty (by decide +kernel), _, rfl, ?_⟩
      refine ⟨.ref a, rfl, 1, rfl, a, _, rfl, h1, fun hw => absurd hw.2 (show ¬ HT.sIx 3 3 (some 1) = 3 by decide), fun hw p1 n1 => ⟨(show 1 ≤ sizeLine from by decide), fun p2 n2 => ?_⟩⟩
      refine ⟨.tuple [.str "run"], .tuple [.str "block"], .tup (.inl (.inl (sameN n2 _ _ upd_same))) (.cons (.str _) .nil), .tup (.inl (.inl upd_same)) (.cons (.str _) .nil), shaped_one _ str_run_ok.1, shaped_one _ str_run_ok.2, ?_⟩
      rw [eqv_one, unlike_sorts.1]
      exact q _ ((sameN n1).trans (sameN n2))
    | blk ps =>
      obtain ⟨a, b, vs, rfl, h1, h2, h3⟩ := hn.blk
      refine ⟨_, rfl, _, _, _, _, true, rfl, .ty "tuple", Loc.SqT.ty h1, kit_ty (by decide +kernel), _, rfl, ?_⟩
      refine ⟨.ref a, rfl, 1, rfl, a, _, rfl, h1, fun hw => absurd hw.2 (show ¬ HT.sIx 2 2 (some 1) = 2 by decide), fun hw p1 n1 => ⟨(show 1 ≤ sizeLine from by decide), fun p2 n2 => ?_⟩⟩
      refine ⟨.tuple [.str "block"], .tuple [.str "block"], .tup (.inl (.inl (sameN n2 _ _ upd_same))) (.cons (.str _) .nil), .tup (.inl (.inl upd_same)) (.cons (.str _) .nil), shaped_one _ str_run_ok.2, shaped_one _ str_run_ok.2, ?_⟩
      rw [eqv_one, beq_self_eq_true]
      exact q _ ((sameN n1).trans (sameN n2))
/-- text_of, of nodes of less than m storeys -/
def spText (K : PySem.W.Frag) (m : Nat) : Sp := fun vs H Q _ => ∃ v n l, vs = [v] ∧ NdV K H v n ∧ Ok n l ∧ wide l ≤ 5000000 ∧ ht n < m ∧ ∀ H', Same H H' → Q (.str (txt n)) H'
theorem scText : FnScope ["node", "part"] ["node"] (defScope sText) := ⟨rfl, rfl, rfl, by decide +kernel, rfl, by decide +kernel, by decide +kernel⟩
theorem ok_text {f g b : Addr} {fd gd bd : FuncData} (F : Fun K "text_of" "text_of" sText f fd) (gF : mg "text_of" = some (.ref f)) (bF : Binds K fd ["node"] []) (R : Fun K "is_run" "is_run" sIsRun g gd) (gR : mg "is_run" = some (.ref g)) (bR : Binds K gd ["value"] [])
    (B : Fun K "is_block" "is_block" sIsBlk b bd) (gB : mg "is_block" = some (.ref b)) (bB : Binds K bd ["value"] []) (mi : mg "isinstance" = none) (mt : mg "tuple" = none) (ms : mg "str" = none) : ∀ m : Nat, FnOk P w K mg base CX0 (m + 1) f fd ["node"] (spText K m)
  | 0 => ⟨fun vs H Q E h => by obtain ⟨v, n, l, _, _, _, _, h, _⟩ := h; exact absurd h (Nat.not_lt_zero _), fun A outer s H args us vs Q E _ _ _ _ h => by obtain ⟨v, n, l, _, _, _, _, h, _⟩ := h; exact absurd h (Nat.not_lt_zero _)⟩
  | m + 1 => by
    have IH : FnOk P w K mg base CX0 (m + 1) f fd ["node"] (spText K m) := ok_text F gF bF R gR bR B gB bB mi mt ms m
    have GR : FnOk P w K mg base CX0 (m + 1) g gd ["value"] (spIsRun K) := ok_isrun R mi mt
    have GB : FnOk P w K mg base CX0 (m + 1) b bd ["value"] (spIsBlk K) := ok_isblk B mi mt
    refine F.ok scText (fun vs H Q E h => ?_) (fun cdv A outer s H vs Q E hr h => ?_)
    · obtain ⟨v, n, l, rfl, _⟩ := h
      rfl
    · obtain ⟨v, n, l, rfl, hn, ok, hw, hh, q⟩ := h
      refine ⟨_, pss_cons (ps_if (pt_val (pe_call GR hr (by rfl) gR R.kp bR .nil pass0 (pa_cons (pv 0) pa_nil)))
            (pss_one (ps_ret (pe_op op_add_str (pe_op op_add_str (pe_call IH hr (by rfl) gF F.kp bF .nil pass0 (pa_cons (pe_ix ix_tup (pv 0) pe_int (fun _ _ => rfl)) pa_nil)) pe_str) (pe_callTy call_str_int (by rfl) ms PyProof.Rows.boot_str (pa_cons (pe_ix ix_tup (pv 0) pe_int (fun _ _ => rfl)) pa_nil))))) pss_nil)
        (pss_cons (ps_if (pt_val (pe_call GB hr (by rfl) gB B.kp bB .nil pass0 (pa_cons (pv 0) pa_nil)))
            (pss_one (ps_ret (pe_op op_add_str (pe_op op_add_str pe_str (pe_join pe_str (pe_lc (own := [("part", 1)]) (g := gName 1) (tt := tYes) rfl scText.nd (pi_tup (pe_ix ix_tup (pv 0) pe_int (fun _ _ => rfl)))
              (blkOk_by (N := ["node", "part"]) (sc := defScope sText) (by decide +kernel)) (fun _ _ _ _ _ => pg_name (i := 1) scText.nd rfl (Or.inl rfl)) (fun _ _ _ _ _ => pts_nil)
              (fun _ _ _ _ _ => pe_call IH hr (by rfl) gF F.kp bF .nil pass0 (pa_cons (pv 1) pa_nil))))) pe_str))) pss_nil)
        (pss_one (ps_ret (pe_callTy call_str_int (by rfl) ms PyProof.Rows.boot_str (pa_cons (pv 0) pa_nil))))), ?_⟩
      have tl := txt_len n l ok
      refine ⟨v, rfl, v, n, rfl, hn, fun H1 s1 => ?_⟩
      have hn1 := hn.up (.of s1)
      cases n with
      | run b c =>
        refine ⟨_, rfl, iteT ?_⟩
        obtain ⟨a, v2, rfl, h1, h2⟩ := hn1.run
        unfold Ok at ok
        have tb := txt_len b l ok.2.2.2
        rw [ok.2.2.1] at tb
        simp only [Bool.false_eq_true, if_false] at tb
        have nl := numT_len (n := c) (k := 61) (by decide) (Nat.lt_of_le_of_lt ok.2.1 (by decide +kernel))
        have e1 : (Str.ofString "^").length = 1 := by decide +kernel
        refine ⟨.ref a, rfl, a, _, 1, v2, rfl, rfl, h1, rfl, v2, b, l, rfl, h2, ok.2.2.2, hw, ?_, fun H2 s2 => ?_⟩
        · unfold ht at hh
          omega
        refine ⟨_, _, rfl, rfl, ?_, .ref a, rfl, a, _, 2, .int c, rfl, rfl, sameT s2 h1, rfl, c, rfl, log60 ok.2.1, _, _, rfl, rfl, ?_, ?_⟩
        · rw [e1]
          exact Nat.le_trans (show (txt b).length + 1 ≤ 5000001 by omega) (by decide)
        · rw [strLen_append, e1]
          have : (numT c).length ≤ 61 := nl
          exact Nat.le_trans (show (txt b).length + 1 + (numT c).length ≤ 5000100 by omega) (by decide)
        · have := q H2 (s1.trans s2)
          unfold txt at this
          exact this
      | el n =>
        refine ⟨_, rfl, iteF ?_⟩
        refine ⟨v, rfl, v, .el n, rfl, hn1, fun H2 s2 => ⟨_, rfl, iteF ?_⟩⟩
        have ev := hn.el
        subst ev
        unfold Ok at ok
        refine ⟨_, rfl, n, rfl, log60 (Nat.le_trans ok.2 (by decide +kernel)), ?_⟩
        have := q H2 (s1.trans s2)
        unfold txt at this
        exact this
      | blk ps =>
        refine ⟨_, rfl, iteF ?_⟩
        refine ⟨v, rfl, v, .blk ps, rfl, hn1, fun H2 s2 => ⟨_, rfl, iteT ?_⟩⟩
        obtain ⟨a, bb, vs, rfl, h1, h2, h3⟩ := (hn1.up (.of s2)).blk
        have okc := ok
        unfold Ok at ok
        obtain ⟨l1, l2, l3, okp, _⟩ := ok
        have lv := h3.len
        have sm := txts_len ps (l - 1) okp
        obtain ⟨j, rfl⟩ : ∃ j, l = j + 1 := ⟨l - 1, by omega⟩
        simp only [Nat.add_sub_cancel] at sm okp
        have wj : wide (j + 1) = 3 * wide j + 110 := rfl
        have mm : ps.length * wide j ≤ 3 * wide j := Nat.mul_le_mul_right _ l3
        refine ⟨⟨_, rfl⟩, .ref a, rfl, a, _, 1, .ref bb, rfl, rfl, h1, rfl, bb, rfl, ⟨vs, h2⟩, fun D nD => ?_⟩
        refine lc_tup (xs := vs) (fun i H' => H' D = some (.lst (((txts ps).take i).map V.str)) ∧ Same H2 H') ⟨by rw [List.take_zero]; exact upd_same, sameN nD⟩ (fun i H' _ hp => sameT hp.2 h2) (fun i u H' hu hp => ?_) (fun H' hp => ?_)
        · obtain ⟨g1, s3⟩ := hp
          obtain ⟨x, hx, kx⟩ := (h3.up (.of s3)).get hu
          have hmem := List.mem_of_getElem? hx
          have ht2 : ht x < m := by
            have := hts_mem hmem
            unfold ht at hh
            omega
          have htx : (txts ps)[i]? = some (txt x) := by rw [txts_map, List.getElem?_map, hx]; rfl
          refine ⟨rfl, u, rfl, u, x, j, rfl, kx, okp.mem x hmem, by omega, ht2, fun H3 s4 => ⟨_, s4 _ _ g1, ?_, ?_, sameW (s3.trans s4) nD⟩⟩
          · rw [List.length_map]
            refine line5 (small_take ?_)
            rw [txts_map, List.length_map]
            omega
          · rw [upd_same, take_more htx, List.map_append]
            rfl
        · obtain ⟨g1, s3⟩ := hp
          have full : (txts ps).take vs.length = txts ps := List.take_of_length_le (by rw [txts_map, List.length_map, lv]; exact Nat.le_refl _)
          rw [full] at g1
          have e1 : (Str.ofString "(").length = 1 := by decide +kernel
          have e2 : (Str.ofString ")").length = 1 := by decide +kernel
          have e3 : (Str.ofString " ").length = 1 := by decide +kernel
          have e4 : (txts ps).length = ps.length := by rw [txts_map, List.length_map]
          have g := size_glued " " (txts ps)
          rw [e3, e4] at g
          have g' : (Txt.join " " (txts ps)).length = ((txts ps).map (·.length)).sum + (ps.length - 1) * 1 := g
          refine ⟨_, D, txts ps, rfl, rfl, .inl (.inl (.inl g1)), ?_, _, _, rfl, rfl, ?_, _, _, rfl, rfl, ?_, ?_⟩
          · rw [e3, e4]
            omega
          · rw [e1]
            refine Nat.le_trans (show 1 + (Txt.join " " (txts ps)).length ≤ 5000100 by omega) (by decide)
          · rw [strLen_append, e1, e2]
            refine Nat.le_trans (show 1 + (Txt.join " " (txts ps)).length + 1 ≤ 5000100 by omega) (by decide)
          · have := q H' (s1.trans (s2.trans s3))
            unfold txt at this
            exact this
end
/-! ### first marks -/
section
variable {P : Program} {w : World} {K : PySem.W.Frag} {mg : Str → Option Value} {base : Heap}
theorem scCode : FnScope ["text", "at"] ["text", "at"] (defScope sCodeAt) := ⟨rfl, rfl, rfl, by decide +kernel, rfl, by decide +kernel, by decide +kernel⟩
theorem scFU : FnScope ["one", "other", "at"] ["one", "other"] (defScope sFU) := ⟨rfl, rfl, rfl, by decide +kernel, rfl, by decide +kernel, by decide +kernel⟩
theorem scFM : FnScope ["texts", "place", "first"] ["texts", "place"] (defScope sFM) := ⟨rfl, rfl, rfl, by decide +kernel, rfl, by decide +kernel, by decide +kernel⟩
theorem scFirst : FnScope ["row", "texts", "node", "place"] ["row"] (defScope sFirst) := ⟨rfl, rfl, rfl, by decide +kernel, rfl, by decide +kernel, by decide +kernel⟩
def spCode : Sp := fun vs H Q _ => ∃ (s : Str) (t : List Nat) (i : Nat), vs = [.str s, .int i] ∧ TL.tl s = t ∧ (∀ c ∈ t, Sg c) ∧ s.length ≤ sizeLine ∧ Q (.int (codeAt t i : Nat)) H
def spFU : Sp := fun vs H Q _ => ∃ (s t : Str), vs = [.str s, .str t] ∧ s.length ≤ sizeLine ∧ t.length ≤ sizeLine ∧ Q (.int (cp (TL.tl s) (TL.tl t) : Nat)) H
theorem ok_code {f : Addr} {fd : FuncData} {k : Nat} {tS tE : Tok} (F : Fun K "_code_at" "_code_at" sCodeAt f fd) (ml : mg "len" = none) (gS : mg "SIGNS" = some (.str "0123456789 ()^" tS)) (gE : mg "ENDED" = some (.int 14 tE)) : FnOk P w K mg base CX0 (k + 1) f fd ["text", "at"] spCode := by
  refine F.ok scCode (fun vs H Q E h => ?_) (fun cdv A outer s H vs Q E hr h => ?_)
  · obtain ⟨s, t, i, rfl, _⟩ := h
    rfl
  · obtain ⟨x, t, i, rfl, rfl, hs, hl, q⟩ := h
    refine ⟨_, pss_cons (ps_if (pt_cmpR op_lt (pv 1) (pe_callB call_len_str (by rfl) ml PySem.boot_len (pa_cons (pv 0) pa_nil)) (nomark _))
        (pss_one (ps_ret (pe_m1 PySem.F.slot_str_index PySem.F.type_str_index mt_sindex (pe_glob (v := .str "0123456789 ()^") (by rfl) gS ⟨_, rfl⟩) (pe_ix ix_str (pv 0) (pv 1) (fun _ _ => rfl)) (by rfl) (by rfl) (by rfl)))) pss_nil)
      (pss_one (ps_ret (pe_glob (v := .int 14) (by rfl) gE ⟨_, rfl⟩))), ?_⟩
    refine ⟨_, rfl, _, rfl, x, rfl, hl, _, _, rfl, rfl, _, rfl, ite2 (fun e => ?_) (fun e => ?_)⟩
    · have e1 : (i : Int) < ((x.length : Nat) : Int) := of_decide_eq_true e
      rw [TL.len_tl] at e1
      obtain ⟨c, hc⟩ := get_of (l := TL.tl x) (i := i) (by omega)
      obtain ⟨rest, eo⟩ := sign_at (hs c (List.mem_of_getElem? hc))
      rw [codeAt_some hc] at q
      exact ⟨⟨_, rfl⟩, _, rfl, _, rfl, x, i, c, rfl, rfl, hl, atI_nat hc, _, _, _, rest, rfl, rfl, eo, q⟩
    · have e1 : ¬ (i : Int) < ((x.length : Nat) : Int) := fun z => e (decide_eq_true z)
      rw [TL.len_tl] at e1
      rw [codeAt_none (List.getElem?_eq_none_iff.mpr (by omega))] at q
      exact q
theorem ok_fu {f : Addr} {fd : FuncData} {k : Nat} (F : Fun K "_first_unlike" "_first_unlike" sFU f fd) (ml : mg "len" = none) : FnOk P w K mg base CX0 (k + 1) f fd ["one", "other"] spFU := by
  refine F.ok scFU (fun vs H Q E h => ?_) (fun cdv A outer s H vs Q E hr h => ?_)
  · obtain ⟨s, t, rfl, _⟩ := h
    rfl
  · obtain ⟨x, y, rfl, hx, hy, q⟩ := h
    refine ⟨_, pss_cons (ps_set (i := 2) scFU.nd rfl (.inl rfl) pe_int)
      (pss_cons (ps_while PassesOwn.never (PW.pt (pw_and (pt_cmpR op_lt (pv 2) (pe_callB call_len_str (by rfl) ml PySem.boot_len (pa_cons (pv 0) pa_nil)) (nomark _))
          (pw_and (pt_cmpR op_lt (pv 2) (pe_callB call_len_str (by rfl) ml PySem.boot_len (pa_cons (pv 1) pa_nil)) (nomark _))
          (pw_and1 (pt_cmpR op_eq (pe_ix ix_str (pv 0) (pv 2) (fun _ _ => rfl)) (pe_ix ix_str (pv 1) (pv 2) (fun _ _ => rfl)) (nomark _))))))
        (pss_one (ps_aug (i := 2) scFU.nd rfl (.inl rfl) pe_int ip_add)))
      (pss_one (ps_ret (pv 2)))), ?_⟩
    refine ⟨fun m σ H' => ∃ i : Nat, i + m = cp (TL.tl x) (TL.tl y) ∧ σ = [some (.str x), some (.str y), some (.int i)] ∧ H' = H, ⟨_, 0, Nat.zero_add _, rfl, rfl⟩, ?_⟩
    rintro m σ H' ⟨i, im, rfl, rfl⟩
    have lx := TL.len_tl x
    have ly := TL.len_tl y
    refine ⟨_, rfl, _, rfl, x, rfl, hx, _, _, rfl, rfl, _, rfl, ?_⟩
    by_cases c1 : i < (TL.tl x).length
    · obtain ⟨c, hc⟩ := get_of c1
      rw [show decide ((i : Int) < ((x.length : Nat) : Int)) = true from decide_eq_true (by omega)]
      refine ⟨_, rfl, _, rfl, y, rfl, hy, _, _, rfl, rfl, _, rfl, ?_⟩
      by_cases c2 : i < (TL.tl y).length
      · obtain ⟨d, hd⟩ := get_of c2
        rw [show decide ((i : Int) < ((y.length : Nat) : Int)) = true from decide_eq_true (by omega)]
        refine ⟨_, rfl, _, rfl, x, i, c, rfl, rfl, hx, atI_nat hc, _, rfl, _, rfl, y, i, d, rfl, rfl, hy, atI_nat hd, rfl, _, rfl, ?_⟩
        rw [Loc.one_sign]
        by_cases e : c = d
        · rw [decide_eq_true e]
          have hlt : i < cp (TL.tl x) (TL.tl y) := by
            rcases Nat.lt_or_ge i (cp (TL.tl x) (TL.tl y)) with z | z
            · exact z
            · have : i = cp (TL.tl x) (TL.tl y) := by omega
              rw [this] at hc hd
              exact absurd e (cp_stop _ _ c d hc hd)
          refine ⟨fun σ' H'' => σ' = [some (.str x), some (.str y), some (.int ((i + 1 : Nat) : Int))] ∧ H'' = H', fun σ' H'' hN => ⟨m - 1, by omega, i + 1, by omega, hN.1, hN.2⟩, ?_⟩
          refine ⟨_, rfl, i, 1, rfl, rfl, ?_, rfl⟩
          rw [Int.natCast_add]
          rfl
        · rw [decide_eq_false e]
          have : i = cp (TL.tl x) (TL.tl y) := by
            rcases Nat.lt_or_ge i (cp (TL.tl x) (TL.tl y)) with z | z
            · obtain ⟨u, h1, h2⟩ := cp_same _ _ i z
              rw [hc] at h1
              rw [hd] at h2
              exact absurd ((Option.some.inj h1).trans (Option.some.inj h2).symm) e
            · omega
          rw [← this] at q
          exact ⟨_, rfl, q⟩
      · rw [show decide ((i : Int) < ((y.length : Nat) : Int)) = false from decide_eq_false (by omega)]
        have : i = cp (TL.tl x) (TL.tl y) := by
          have := (cp_le (TL.tl x) (TL.tl y)).2
          omega
        rw [← this] at q
        exact ⟨_, rfl, q⟩
    · rw [show decide ((i : Int) < ((x.length : Nat) : Int)) = false from decide_eq_false (by omega)]
      have : i = cp (TL.tl x) (TL.tl y) := by
        have := (cp_le (TL.tl x) (TL.tl y)).1
        omega
      rw [← this] at q
      exact ⟨_, rfl, q⟩
def spFM (K : PySem.W.Frag) : Sp := fun vs H Q _ => ∃ (a : Addr) (ns : List Nd) (l : Nat) (z : Int) (i m : Nat), vs = [.ref a, .int z] ∧ z = i ∧ SqL K H a (vT ns) ∧ OkAll ns l ∧ wide l ≤ 5000000 ∧ (fms (ns.map cd))[i]? = some m ∧ Q (.int (m : Nat)) H
theorem ok_fm {f g c : Addr} {fd gd cd' : FuncData} {k : Nat} {tS tE : Tok} (F : Fun K "_first_mark" "_first_mark" sFM f fd) (U : Fun K "_first_unlike" "_first_unlike" sFU g gd) (gU : mg "_first_unlike" = some (.ref g)) (bU : Binds K gd ["one", "other"] [])
    (C : Fun K "_code_at" "_code_at" sCodeAt c cd') (gC : mg "_code_at" = some (.ref c)) (bC : Binds K cd' ["text", "at"] []) (ml : mg "len" = none) (gS : mg "SIGNS" = some (.str "0123456789 ()^" tS)) (gE : mg "ENDED" = some (.int 14 tE)) :
    FnOk P w K mg base CX0 (k + 2) f fd ["texts", "place"] (spFM K) := by
  have GU : FnOk P w K mg base CX0 (k + 1) g gd ["one", "other"] spFU := ok_fu U ml
  have GC : FnOk P w K mg base CX0 (k + 1) c cd' ["text", "at"] spCode := ok_code C ml gS gE
  refine F.ok scFM (fun vs H Q E h => ?_) (fun cdv A outer s H vs Q E hr h => ?_)
  · obtain ⟨a, ns, l, z, i, m, rfl, _⟩ := h
    rfl
  · obtain ⟨a, ns, l, z, i, m, rfl, rfl, hS, ok, hw, hm, q⟩ := h
    refine ⟨_, pss_cons (ps_if (pt_cmpR op_eq (pv 1) pe_int (nomark _)) (pss_one (ps_ret (pe_call GC hr (by rfl) gC C.kp bC .nil pass0 (pa_cons (pe_ix ix_list (pv 0) pe_int (fun _ _ => rfl)) (pa_cons pe_int pa_nil))))) pss_nil)
      (pss_cons (ps_set (i := 2) scFM.nd rfl (.inl rfl) (pe_call GU hr (by rfl) gU U.kp bU .nil pass0 (pa_cons (pe_ix ix_list (pv 0) (pe_op op_sub (pv 1) pe_int) (fun _ _ => rfl)) (pa_cons (pe_ix ix_list (pv 0) (pv 1) (fun _ _ => rfl)) pa_nil))))
      (pss_one (ps_ret (pe_op op_add (pe_op op_mul pe_int (pv 2)) (pe_call GC hr (by rfl) gC C.kp bC .nil pass0 (pa_cons (pe_ix ix_list (pv 0) (pv 1) (fun _ _ => rfl)) (pa_cons (pv 2) pa_nil))))))), ?_⟩
    have hi : i < ns.length := by
      have := (List.getElem?_eq_some_iff.mp hm).1
      rwa [fms_length, List.length_map] at this
    refine ⟨_, rfl, rfl, _, rfl, ite2 (fun e => ?_) (fun e => ?_)⟩
    · have e0 : (i : Int) = 0 := V.int.inj (of_decide_eq_true e)
      have e1 : i = 0 := by omega
      subst e1
      obtain ⟨n, hn⟩ := get_of hi
      have okn := ok.mem n (List.mem_of_getElem? hn)
      refine ⟨.ref a, rfl, a, _, ((0 : Nat) : Int), .str (txt n), rfl, rfl, hS, atI_nat (vT_get hn), txt n, cd n, 0, rfl, tl_txt n, cd_sg n, (len_cd5 okn hw).2, ?_⟩
      have : (fms (ns.map cd))[0]? = some (codeAt (cd n) 0) := by
        match ns, hn with
        | x :: r, hn =>
          have : x = n := by simpa using hn
          rw [this]
          rfl
      rw [hm] at this
      rw [← Option.some.inj this]
      exact q
    · have e1 : i ≠ 0 := fun z => e (by rw [z]; rfl)
      obtain ⟨j, rfl⟩ : ∃ j, i = j + 1 := ⟨i - 1, by omega⟩
      obtain ⟨x, hx⟩ := get_of (l := ns) (i := j) (by omega)
      obtain ⟨y, hy⟩ := get_of hi
      have okx := ok.mem x (List.mem_of_getElem? hx)
      have oky := ok.mem y (List.mem_of_getElem? hy)
      have em := fms_get (ns.map cd) j (cd x) (cd y) (by rw [List.getElem?_map, hx]; rfl) (by rw [List.getElem?_map, hy]; rfl)
      rw [hm] at em
      have em := Option.some.inj em
      refine ⟨.ref a, rfl, _, rfl, _, 1, rfl, rfl, a, _, _, .str (txt x), rfl, rfl, hS, at_of (j := j) (by omega) (vT_get hx), .ref a, rfl, _, rfl, a, _, _, .str (txt y), rfl, rfl, hS, atI_nat (vT_get hy), txt x, txt y, rfl, (len_cd5 okx hw).2, (len_cd5 oky hw).2, ?_⟩
      rw [tl_txt, tl_txt]
      refine ⟨_, rfl, 16, _, rfl, rfl, .inl ⟨by decide, by decide⟩, .ref a, rfl, _, rfl, a, _, _, .str (txt y), rfl, rfl, hS, atI_nat (vT_get hy), _, rfl, txt y, cd y, cp (cd x) (cd y), rfl, tl_txt y, cd_sg y, (len_cd5 oky hw).2, _, _, rfl, rfl, ?_⟩
      rw [em] at q
      unfold fmk at q
      rw [Int.natCast_add, Int.natCast_mul] at q
      exact q
/-- first_marks, of rows of nodes of less than m storeys -/
def spFirst (K : PySem.W.Frag) (m : Nat) : Sp := fun vs H Q _ => ∃ (a : Addr) (us : List V) (ns : List Nd) (l : Nat), vs = [.ref a] ∧ SqT K H a us ∧ NdsV K H us ns ∧ OkAll ns l ∧ wide l ≤ 5000000 ∧ (∀ n ∈ ns, ht n < m) ∧ ns.length ≤ 100000 ∧
  ∀ H' p, Same H H' → H' p = some (.tup ((fms (ns.map cd)).map fun n : Nat => V.int (n : Int))) → Q (.ref p) H'
structure FirstF (K : PySem.W.Frag) (mg : Str → Option Value) (fA fC fX f1 f2 f3 : Addr) (dA dC dX d1 d2 d3 : FuncData) (tS tE : Tok) : Prop where
  A : Fun K "is_run" "is_run" sIsRun fA dA
  C : Fun K "is_block" "is_block" sIsBlk fC dC
  X : Fun K "text_of" "text_of" sText fX dX
  F1 : Fun K "_first_mark" "_first_mark" sFM f1 d1
  F2 : Fun K "_first_unlike" "_first_unlike" sFU f2 d2
  F3 : Fun K "_code_at" "_code_at" sCodeAt f3 d3
  gA : mg "is_run" = some (.ref fA)
  gC : mg "is_block" = some (.ref fC)
  gX : mg "text_of" = some (.ref fX)
  gF1 : mg "_first_mark" = some (.ref f1)
  gF2 : mg "_first_unlike" = some (.ref f2)
  gF3 : mg "_code_at" = some (.ref f3)
  bA : Binds K dA ["value"] []
  bC : Binds K dC ["value"] []
  bX : Binds K dX ["node"] []
  bF1 : Binds K d1 ["texts", "place"] []
  bF2 : Binds K d2 ["one", "other"] []
  bF3 : Binds K d3 ["text", "at"] []
  SIGNS : mg "SIGNS" = some (.str "0123456789 ()^" tS)
  ENDED : mg "ENDED" = some (.int 14 tE)
  len : mg "len" = none
  tuple : mg "tuple" = none
  range : mg "range" = none
  isinstance : mg "isinstance" = none
  str : mg "str" = none
theorem ok_first {fA fC fX f1 f2 f3 f : Addr} {dA dC dX d1 d2 d3 fd : FuncData} {tS tE : Tok} (F : Fun K "first_marks" "first_marks" sFirst f fd) (X : FirstF K mg fA fC fX f1 f2 f3 dA dC dX d1 d2 d3 tS tE) (m : Nat) : FnOk P w K mg base CX0 (m + 3) f fd ["row"] (spFirst K m) := by
  have GX : FnOk P w K mg base CX0 (m + 1) fX dX ["node"] (spText K m) := ok_text X.X X.gX X.bX X.A X.gA X.bA X.C X.gC X.bC X.isinstance X.tuple X.str m
  have G1 : FnOk P w K mg base CX0 (m + 2) f1 d1 ["texts", "place"] (spFM K) := ok_fm X.F1 X.F2 X.gF2 X.bF2 X.F3 X.gF3 X.bF3 X.len X.SIGNS X.ENDED
  refine F.ok scFirst (fun vs H Q E h => ?_) (fun cdv A outer s H vs Q E hr h => ?_)
  · obtain ⟨a, us, ns, l, rfl, _⟩ := h
    rfl
  · obtain ⟨a, us, ns, l, rfl, hS, hn, ok, hw, hh, hl, q⟩ := h
    have r1 := hr.mono (j := m + 1) (by omega)
    refine ⟨_, pss_cons (ps_set (i := 1) scFirst.nd rfl (.inr rfl) (pe_lc (own := [("node", 2)]) (g := gName 2) (tt := tYes) rfl scFirst.nd (pi_tup (pv 0)) (blkOk_by (N := ["row", "texts", "node", "place"]) (sc := defScope sFirst) (by decide +kernel))
        (fun _ _ _ _ _ => pg_name (i := 2) scFirst.nd rfl (Or.inl rfl)) (fun _ _ _ _ _ => pts_nil) (fun _ _ _ _ _ => pe_call GX r1 (by rfl) X.gX X.X.kp X.bX .nil pass0 (pa_cons (pv 2) pa_nil))))
      (pss_one (ps_ret (pe_callTy call_tuple_of (by rfl) X.tuple PyProof.Rows.boot_tuple (pa_cons (pe_lc (own := [("place", 3)]) (g := gName 3) (tt := tYes) rfl scFirst.nd
        (pi_range1 (by rfl) X.range (pa_cons (pe_callB call_len_seq (by rfl) X.len PySem.boot_len (pa_cons (pv 1) pa_nil)) pa_nil)) (blkOk_by (N := ["row", "texts", "node", "place"]) (sc := defScope sFirst) (by decide +kernel))
        (fun _ _ _ _ _ => pg_name (i := 3) scFirst.nd rfl (Or.inl rfl)) (fun _ _ _ _ _ => pts_nil)
        (fun _ _ _ _ _ => pe_call G1 hr (by rfl) X.gF1 X.F1.kp X.bF1 .nil pass0 (pa_cons (pv 1) (pa_cons (pv 3) pa_nil)))) pa_nil)))), ?_⟩
    have hlu := hn.len
    refine ⟨.ref a, rfl, a, rfl, ⟨us, hS⟩, fun D nD => ?_⟩
    refine lc_tup (xs := us) (fun i H' => H' D = some (.lst (vT (ns.take i))) ∧ Same H H') ⟨by rw [List.take_zero]; exact upd_same, sameN nD⟩ (fun i H' _ hp => sameT hp.2 hS) (fun i u H' hu hp => ?_) (fun H1 hp => ?_)
    · obtain ⟨g1, s3⟩ := hp
      obtain ⟨x, hx, kx⟩ := (hn.up (.of s3)).get hu
      have hmem := List.mem_of_getElem? hx
      refine ⟨rfl, u, rfl, u, x, l, rfl, kx, ok.mem x hmem, hw, hh x hmem, fun H3 s4 => ⟨_, s4 _ _ g1, ?_, ?_, sameW (s3.trans s4) nD⟩⟩
      · rw [List.length_map]
        exact line5 (small_take hl)
      · rw [upd_same, take_more hx]
        exact congrArg (fun z => some (HO.lst z)) (show vT (ns.take i) ++ [V.str (txt x)] = vT (ns.take i ++ [x]) by unfold vT; rw [List.map_append]; rfl)
    obtain ⟨g1, s1⟩ := hp
    rw [hlu, List.take_length] at g1
    have lf : (fms (ns.map cd)).length = ns.length := by rw [fms_length, List.length_map]
    have lv : (vT ns).length = ns.length := List.length_map _
    refine ⟨.ref D, rfl, D, vT ns, rfl, .inl (.inl (.inl g1)), _, rfl, ?_, ?_, fun D2 nD2 => ?_⟩
    · show -(2 ^ 62) ≤ (((vT ns).length : Nat) : Int)
      omega
    · show (((vT ns).length : Nat) : Int) < 2 ^ 62
      rw [lv]
      omega
    refine lc_range (fun i H' => H' = upd H1 D2 (.lst (((fms (ns.map cd)).take i).map fun n : Nat => V.int (n : Int)))) (by rw [List.take_zero]; rfl) (fun i H' hi hp => ?_) (fun H' hp => ?_)
    · subst hp
      rw [Int.toNat_natCast, lv] at hi
      obtain ⟨mk, hmk⟩ := get_of (l := fms (ns.map cd)) (i := i) (by omega)
      refine ⟨rfl, .ref D, rfl, _, rfl, D, ns, l, _, i, mk, rfl, by omega, .inl (.inl (sameN nD2 _ _ g1)), ok, hw, hmk, _, upd_same, ?_, ?_⟩
      · rw [List.length_map]
        exact line5 (small_take (by omega))
      · rw [upd_upd, take_more hmk]
        exact congrArg (fun z => upd H1 D2 (.lst z)) (show ((fms (ns.map cd)).take i).map (fun n : Nat => V.int (n : Int)) ++ [V.int (mk : Int)] = ((fms (ns.map cd)).take i ++ [mk]).map (fun n : Nat => V.int (n : Int)) by rw [List.map_append]; rfl)
    · subst hp
      rw [Int.toNat_natCast, lv, ← lf, List.take_length]
      refine ⟨D2, _, rfl, .inl ⟨.inl (.inl upd_same), fun t nt => ?_⟩⟩
      exact q _ t (s1.trans ((sameN nD2).trans (sameN nt))) upd_same
end
/-! ### the later rounds -/
abbrev vN (ns : List Nat) : List V := ns.map fun n : Nat => V.int (n : Int)
theorem vN_get {ns : List Nat} {i n : Nat} (h : ns[i]? = some n) : (vN ns)[i]? = some (.int (n : Int)) := by
  rw [List.getElem?_map, h]
  rfl
theorem vN_len (ns : List Nat) : (vN ns).length = ns.length := List.length_map _
theorem vN_app (ns : List Nat) (n : Nat) : vN (ns ++ [n]) = vN ns ++ [.int (n : Int)] := List.map_append
section
variable {P : Program} {w : World} {K : PySem.W.Frag} {mg : Str → Option Value} {base : Heap}
theorem scNm : FnScope ["some", "place", "unlike", "lowest"] ["some", "place"] (defScope sNm) := ⟨rfl, rfl, rfl, by decide +kernel, rfl, by decide +kernel, by decide +kernel⟩
theorem scNext : FnScope ["some", "place"] ["some"] (defScope sNext) := ⟨rfl, rfl, rfl, by decide +kernel, rfl, by decide +kernel, by decide +kernel⟩
def spNm (K : PySem.W.Frag) : Sp := fun vs H Q _ => ∃ (a : Addr) (ns : List Nat) (z : Int) (i m : Nat), vs = [.ref a, .int z] ∧ z = i ∧ SqT K H a (vN ns) ∧ M07.Unl ns ∧ (M07.round ns)[i]? = some m ∧ Q (.int (m : Int)) H
theorem ok_nm {f : Addr} {fd : FuncData} {k : Nat} (F : Fun K "_next_mark" "_next_mark" sNm f fd) : FnOk P w K mg base CX0 (k + 1) f fd ["some", "place"] (spNm K) := by
  refine F.ok scNm (fun vs H Q E h => ?_) (fun cdv A outer s H vs Q E hr h => ?_)
  · obtain ⟨a, ns, z, i, m, rfl, _⟩ := h
    rfl
  · obtain ⟨a, ns, z, i, m, rfl, rfl, hS, un, hm, q⟩ := h
    refine ⟨_, pss_cons (ps_if (pt_cmpR op_eq (pv 1) pe_int (nomark _)) (pss_one (ps_ret (pe_op op_and (pe_ix ix_tup (pv 0) pe_int (fun _ _ => rfl)) pe_int))) pss_nil)
      (pss_cons (ps_set (i := 2) scNm.nd rfl (.inl rfl) (pe_op op_xor (pe_ix ix_tup (pv 0) (pe_op op_sub (pv 1) pe_int) (fun _ _ => rfl)) (pe_ix ix_tup (pv 0) (pv 1) (fun _ _ => rfl))))
      (pss_cons (ps_set (i := 3) scNm.nd rfl (.inl rfl) (pe_op op_sub (pe_bits (pe_op op_and (pv 2) (pe_un un_neg (pv 2)))) pe_int))
      (pss_one (ps_ret (pe_op op_add (pe_op op_mul pe_int (pv 3)) (pe_op op_and (pe_op op_shr (pe_ix ix_tup (pv 0) (pv 1) (fun _ _ => rfl)) (pv 3)) pe_int)))))), ?_⟩
    have hi : i < ns.length := by
      have := (List.getElem?_eq_some_iff.mp hm).1
      rwa [M07.round_length] at this
    refine ⟨.int i, rfl, rfl, _, rfl, ite2 (fun e => ?_) (fun e => ?_)⟩
    · have e0 : (i : Int) = 0 := V.int.inj (of_decide_eq_true e)
      have e1 : i = 0 := by omega
      subst e1
      match ns, hi, hm, hS with
      | n :: r, _, hm, hS =>
        have e2 : n % 2 = m := Option.some.inj hm
        refine ⟨.ref a, rfl, a, _, ((0 : Nat) : Int), .int n, rfl, rfl, hS, atI_nat (by rfl), n, 1, rfl, rfl, ?_⟩
        show Q (.int (Builtin.bitAnd (n : Int) 1)) H
        rw [PyProof.Rows.bitAnd_m1, ← show ((m : Nat) : Int) = (n : Int) % 2 by omega]
        exact q
    · have e1 : i ≠ 0 := fun z => e (by rw [z]; rfl)
      obtain ⟨j, rfl⟩ : ∃ j, i = j + 1 := ⟨i - 1, by omega⟩
      have gx : ns[j]? = some ns[j] := List.getElem?_eq_getElem (by omega)
      have gy : ns[j + 1]? = some ns[j + 1] := List.getElem?_eq_getElem hi
      have hne := M07.Unl.get un gx gy
      generalize ns[j] = x at gx hne
      generalize ns[j + 1] = y at gy hne
      have em := M07.round_get ns j x y gx gy
      rw [hm] at em
      have em := Option.some.inj em
      refine ⟨.ref a, rfl, .int ((j + 1 : Nat) : Int), rfl, _, 1, rfl, rfl, a, _, (j : Nat), .int x, rfl, ?_, hS, atI_nat (vN_get gx), .ref a, rfl, .int ((j + 1 : Nat) : Int), rfl, a, _, ((j + 1 : Nat) : Int), .int y, rfl, rfl, hS, atI_nat (vN_get gy), x, y, rfl, rfl, ?_⟩
      · show V.int (((j + 1 : Nat) : Int) - 1) = V.int (j : Nat)
        congr 1
        omega
      refine ⟨_, rfl, _, rfl, _, rfl, _, _, rfl, rfl, _, rfl, _, 1, rfl, rfl, _, rfl, 2, _, rfl, rfl, .inl ⟨by decide, by decide⟩, .ref a, rfl, .int ((j + 1 : Nat) : Int), rfl, a, _, ((j + 1 : Nat) : Int), .int y, rfl, rfl, hS, atI_nat (vN_get gy), _, rfl, y, _, rfl, rfl, ?_,
        _, 1, rfl, rfl, _, _, rfl, rfl, ?_⟩
      · show (0 : Int) ≤ ((Builtin.Int.intBits (Builtin.bitAnd (Builtin.bitXor (x : Int) (y : Int)) (-(Builtin.bitXor (x : Int) (y : Int)))) : Nat) : Int) - 1
        rw [M07.low_word hne]
        omega
      · have mw := M07.mark_word hne
        rw [← em] at mw
        rw [← mw] at q
        exact q
/-- next_marks -/
def spNext (K : PySem.W.Frag) : Sp := fun vs H Q _ => ∃ (a : Addr) (ns : List Nat), vs = [.ref a] ∧ SqT K H a (vN ns) ∧ M07.Unl ns ∧ ns.length ≤ 100000 ∧
  ∀ H' p, Same H H' → H' p = some (.tup (vN (M07.round ns))) → Q (.ref p) H'
theorem ok_next {f g : Addr} {fd gd : FuncData} {k : Nat} (F : Fun K "next_marks" "next_marks" sNext f fd) (M : Fun K "_next_mark" "_next_mark" sNm g gd) (gM : mg "_next_mark" = some (.ref g)) (bM : Binds K gd ["some", "place"] [])
    (ml : mg "len" = none) (mr : mg "range" = none) (mt : mg "tuple" = none) : FnOk P w K mg base CX0 (k + 2) f fd ["some"] (spNext K) := by
  have GM : FnOk P w K mg base CX0 (k + 1) g gd ["some", "place"] (spNm K) := ok_nm M
  refine F.ok scNext (fun vs H Q E h => ?_) (fun cdv A outer s H vs Q E hr h => ?_)
  · obtain ⟨a, ns, rfl, _⟩ := h
    rfl
  · obtain ⟨a, ns, rfl, hS, un, hl, q⟩ := h
    refine ⟨_, pss_one (ps_ret (pe_callTy call_tuple_of (by rfl) mt (by decide +kernel) (pa_cons (pe_lc (own := [("place", 1)]) (g := gName 1) (tt := tYes) rfl scNext.nd
      (pi_range1 (by rfl) mr (pa_cons (pe_callB call_len_seq (by rfl) ml PySem.boot_len (pa_cons (pv 0) pa_nil)) pa_nil)) (blkOk_by (N := ["some", "place"]) (sc := defScope sNext) (by decide +kernel))
      (fun _ _ _ _ _ => pg_name (i := 1) scNext.nd rfl (Or.inl rfl)) (fun _ _ _ _ _ => pts_nil)
      (fun _ _ _ _ _ => pe_call GM hr (by rfl) gM M.kp bM .nil pass0 (pa_cons (pv 0) (pa_cons (pv 1) pa_nil)))) pa_nil))), ?_⟩
    refine ⟨.ref a, rfl, a, _, rfl, .inr hS, _, rfl, ?_, ?_, fun D hD => ?_⟩
    · show -(2 ^ 62) ≤ (((vN ns).length : Nat) : Int)
      omega
    · show (((vN ns).length : Nat) : Int) < 2 ^ 62
      rw [vN_len]
      omega
    refine lc_range (fun i H' => H' = upd H D (.lst (vN ((M07.round ns).take i)))) (by rw [List.take_zero]; rfl) (fun i H' hi hp => ?_) (fun H' hp => ?_)
    · subst hp
      rw [Int.toNat_natCast, vN_len] at hi
      have hr' : i < (M07.round ns).length := by rw [M07.round_length]; exact hi
      have ge : (M07.round ns)[i]? = some (M07.round ns)[i] := List.getElem?_eq_getElem hr'
      refine ⟨rfl, .ref a, rfl, _, rfl, a, ns, _, i, _, rfl, by omega, sameT (sameN hD) hS, un, ge, vN ((M07.round ns).take i), upd_same, ?_, ?_⟩
      · rw [vN_len]
        exact line5 (small_take (by rw [M07.round_length]; exact hl))
      · rw [upd_upd, List.take_add_one, ge]
        exact congrArg (fun z => upd H D (.lst z)) (vN_app _ _).symm
    · subst hp
      rw [Int.toNat_natCast, vN_len, List.take_of_length_le (by rw [M07.round_length]; exact Nat.le_refl _)]
      refine ⟨D, _, rfl, .inl ⟨.inl (.inl upd_same), fun l hl' => ?_⟩⟩
      exact q _ _ (sameW (sameN hD) ((sameN hD).free hl')) upd_same
end
end C62

set_option Elab.async false
set_option linter.all false
set_option maxRecDepth 100000
namespace C62
open PySem PySem.Spec PyProof.Rows L2 Loc RZ
/-! ### the law's pot -/
section
variable {P : Program} {w : World} {K : PySem.W.Frag} {mg : Str → Option Value} {base : Heap}
theorem scPot : FnScope ["script", "k", "cell", "own"] ["script", "k"] (defScope sPot) := ⟨rfl, rfl, rfl, by decide +kernel, rfl, by decide +kernel, by decide +kernel⟩
theorem scTake : FnScope ["pot", "bound", "digit", "prime", "mixed"] ["pot", "bound"] (defScope sTake) := ⟨rfl, rfl, rfl, by decide +kernel, rfl, by decide +kernel, by decide +kernel⟩
theorem ok_pot {f : Addr} {fd : FuncData} {k : Nat} (F : Fun K "_law_pot" "_law_pot" sPot f fd) (ml : mg "len" = none) (ma : mg "abs" = none) (mi : mg "int" = none) :
    FnOk P w K mg base CX0 (k + 1) f fd ["script", "k"] (spPot K) := by
  refine F.ok scPot (fun vs H Q E h => ?_) (fun cdv A outer s H vs Q E hr h => ?_)
  · obtain ⟨a, ns, k, rfl, _⟩ := h
    rfl
  · obtain ⟨a, ns, k, rfl, hS, hl, hk, q⟩ := h
    refine ⟨_, pss_cons (ps_set (i := 2) scPot.nd rfl (.inl rfl) (pe_ifExp (pt_cmpR op_lt (pv 1) (pe_callB call_len_seq (by rfl) ml PySem.boot_len (pa_cons (pv 0) pa_nil)) (nomark _))
          (pe_ix ix_list (pv 0) (pv 1) (fun _ _ => rfl)) (pe_op op_add (pe_op op_mul pe_int (pv 1)) pe_int)))
      (pss_cons (ps_set (i := 3) scPot.nd rfl (.inl rfl) (pe_op op_mul
          (pe_op op_mod (pe_callB call_abs (by rfl) ma (by decide +kernel) (pa_cons (pv 2) pa_nil)) (pe_op op_powW (pe_op op_pow pe_int pe_int) pe_int))
          (pe_callTy call_int1 (by rfl) mi (by decide +kernel) (pa_cons (pe_cmpR op_ge (pe_callB call_abs (by rfl) ma (by decide +kernel) (pa_cons (pv 2) pa_nil)) (pe_op op_pow pe_int pe_int) (nomark _)) pa_nil))))
      (pss_one (ps_ret (pe_lst (pa_cons (pv 3) (pa_cons (pe_op op_mod (pe_op op_add (pe_op op_add (pe_op op_mul (pe_op op_mod (pv 2) pe_int) pe_int) (pe_op op_mul (pe_op op_mul pe_int (pv 1)) (pv 1))) pe_int) pe_int)
          (pa_cons pe_int pa_nil))))))), ?_⟩
    refine ⟨.int k, rfl, .ref a, rfl, a, ns.map V.int, rfl, .inl hS, k, (ns.map V.int).length, rfl, rfl, _, rfl, ?_⟩
    refine joinIf (fun v H' => (∃ c : Int, v = .int c) ∧ H' = H) ?key (fun e R hR => ?yes) (fun e R hR => ?no)
    case yes =>
      have e1 : (k : Int) < ((ns.map V.int).length : Int) := of_decide_eq_true e
      rw [List.length_map] at e1
      have hk2 : k < ns.length := by omega
      refine ⟨.ref a, rfl, .int k, rfl, a, _, k, .int ns[k], rfl, rfl, hS, atI_nat (by rw [List.getElem?_map, List.getElem?_eq_getElem hk2]; rfl), hR _ _ ⟨⟨_, rfl⟩, rfl⟩⟩
    case no =>
      exact ⟨.int k, rfl, 17, k, rfl, rfl, .inl ⟨by decide, by decide⟩, _, _, rfl, rfl, hR _ _ ⟨⟨_, rfl⟩, rfl⟩⟩
    case key =>
      rintro v H' ⟨⟨c, rfl⟩, rfl⟩
      refine ⟨.int c, rfl, c, rfl, 10, 60, rfl, rfl, ⟨by decide, by decide, by decide⟩, _, _, rfl, rfl, pow60, _, _, rfl, rfl, pow300', ?_⟩
      have m1 := mod_pos (a := if c < 0 then -c else c) pow300'
      have m2 := pow300
      refine ⟨.int c, rfl, c, rfl, 10, 18, rfl, rfl, ⟨by decide, by decide, by decide⟩, _, _, rfl, rfl, .inr ⟨_, rfl, _, _, rfl, rfl, .inr ?_, ?_⟩⟩
      · exact bit_small _
      have m3 := mul_bit ⟨m1.1, Int.lt_trans m1.2 m2⟩ (decide ((10 : Int) ^ (18 : Int).toNat ≤ if c < 0 then -c else c))
      have m4 := mod_pos (a := c) (show (0 : Int) < 2305843009213693951 by decide)
      refine ⟨_, rfl, .int c, rfl, c, _, rfl, rfl, (by show (0 : Int) < 2305843009213693951; decide), _, _, rfl, rfl, .inr ⟨by decide, by decide⟩, .int k, rfl, 7907, k, rfl, rfl, .inl ⟨by decide, by decide⟩, .int k, rfl, _, _, rfl, rfl, .inr ⟨by omega, by omega⟩,
        _, _, rfl, rfl, _, 41, rfl, rfl, _, _, rfl, rfl, (by show (0 : Int) < 2305843009213693921; decide), (show 3 ≤ sizeLine from by decide), fun p hp => ?_⟩
      have m5 := mod_pos (a := c % 2305843009213693951 * 69691 + 7907 * (k : Int) * (k : Int) + 41) (show (0 : Int) < 2305843009213693921 by decide)
      exact q p _ hp ⟨_, _, 0, rfl, m3.1, m3.2, m5.1, by omega, by decide, by decide⟩
theorem ok_take {f : Addr} {fd : FuncData} {k : Nat} (F : Fun K "_law_take" "_law_take" sTake f fd) : FnOk P w K mg base CX0 (k + 1) f fd ["pot", "bound"] spTake := by
  refine F.ok scTake (fun vs H Q E h => ?_) (fun cdv A outer s H vs Q E hr h => ?_)
  · obtain ⟨p, b, c, rfl, _⟩ := h
    rfl
  · obtain ⟨p, b, c, rfl, ⟨o, ep, own, mix, cnt, rfl, h1, h2, h3, h4, h5, h6⟩, hc, b1, b2, q⟩ := h
    refine ⟨_, pss_cons (ps_if (pt_cmpR op_gt (pe_ix ix_list (pv 0) pe_int (fun _ _ => rfl)) pe_int (nomark _))
        (pss_cons (ps_set (i := 2) scTake.nd rfl (.inl rfl) (pe_op op_mod (pe_ix ix_list (pv 0) pe_int (fun _ _ => rfl)) (pv 1)))
          (pss_cons (ps_asg (pe_op op_fdivW (pe_ix ix_list (pv 0) pe_int (fun _ _ => rfl)) (pv 1)) (pg_sub (pv 0) pe_int set_list)) (pss_one (ps_ret (pv 2))))) pss_nil)
      (pss_cons (ps_asg (pe_op op_add (pe_ix ix_list (pv 0) pe_int (fun _ _ => rfl)) pe_int) (pg_sub (pv 0) pe_int set_list))
      (pss_cons (ps_set (i := 3) scTake.nd rfl (.inl rfl) (pe_ix ix_list (pe_lst (pa_cons pe_int (pa_cons pe_int (pa_cons pe_int (pa_cons pe_int (pa_cons pe_int pa_nil)))))) (pe_op op_mod (pe_ix ix_list (pv 0) pe_int (fun _ _ => rfl)) pe_int) (fun _ _ => rfl)))
      (pss_cons (ps_set (i := 4) scTake.nd rfl (.inl rfl) (pe_op op_mod (pe_op op_pow (pe_op op_add (pe_op op_add (pe_ix ix_list (pv 0) pe_int (fun _ _ => rfl))
          (pe_op op_mul (pe_op op_mul pe_int (pe_ix ix_list (pv 0) pe_int (fun _ _ => rfl))) (pe_ix ix_list (pv 0) pe_int (fun _ _ => rfl)))) pe_int) pe_int) (pv 3)))
      (pss_one (ps_ret (pe_op op_mod (pe_op op_fdiv (pe_op op_mod (pe_op op_mul (pv 4) (pe_op op_add (pe_op op_mod (pv 4) pe_int) (pe_op op_mul pe_int (pe_ix ix_list (pv 0) pe_int (fun _ _ => rfl))))) pe_int) pe_int) (pv 1))))))), ?_⟩
    have hS : SqL K H p [.int own, .int mix, .int cnt] := .inl (.inl ep)
    refine ⟨.ref p, rfl, p, _, 0, .int own, rfl, rfl, hS, rfl, own, 0, rfl, rfl, _, rfl, ite2 (fun e => ?_) (fun e => ?_)⟩
    · have hpos : 0 < own := of_decide_eq_true e
      refine ⟨.ref p, rfl, p, _, 0, .int own, rfl, rfl, hS, rfl, .int b, rfl, own, b, rfl, rfl, b1, ?_⟩
      refine ⟨.ref p, rfl, p, _, 0, .int own, rfl, rfl, hS, rfl, .int b, rfl, own, b, rfl, rfl, ⟨b1, ?_⟩, .ref p, rfl, p, _, 0, 0, rfl, rfl, ep, rfl, ?_⟩
      · exact (wide_div (i := own) b1 (natAbs_lt (Int.le_of_lt b1) b2) (by decide) (by decide)).2
      · have dv := div_small h1 b1
        exact ⟨.int (own % b), rfl, q _ _ (mod_pos b1).1 (mod_pos b1).2 .set (.put ⟨own / b, mix, cnt, rfl, dv.1, Int.lt_of_le_of_lt dv.2 h2, h3, h4, h5, by omega⟩)⟩
    · refine ⟨.ref p, rfl, p, _, 2, .int cnt, rfl, rfl, hS, rfl, cnt, 1, rfl, rfl, .ref p, rfl, p, _, 2, 2, rfl, rfl, ep, rfl, ?_⟩
      refine ⟨(show 5 ≤ sizeLine from by decide), fun l hl => ?_⟩
      have np : p ≠ l := fun z => by
        rw [z, upd_same] at hl
        cases hl
      have hS1 : SqL K (upd (upd H p (.lst [.int own, .int mix, .int (cnt + 1)])) l (.lst [.int 2147483647, .int 2147483629, .int 2147483587, .int 2147483579, .int 2147483563])) p [.int own, .int mix, .int (cnt + 1)] :=
        .inl (.inl (by rw [upd_ne np, upd_same]))
      obtain ⟨pr, e1, e2, e3⟩ := prime_at (n := cnt + 1) (by omega)
      have bs := base_small h3 h4 (c := cnt + 1) (by omega) (by omega)
      refine ⟨.ref p, rfl, p, _, 2, .int (cnt + 1), rfl, rfl, hS1, rfl, cnt + 1, 5, rfl, rfl, (show (0 : Int) < 5 by decide), l, _, _, .int pr, rfl, rfl, .inl (.inl upd_same), e1, ?_⟩
      refine ⟨.ref p, rfl, p, _, 1, .int mix, rfl, rfl, hS1, rfl, .ref p, rfl, p, _, 2, .int (cnt + 1), rfl, rfl, hS1, rfl, 99991, cnt + 1, rfl, rfl, .inl ⟨by decide, by decide⟩,
        .ref p, rfl, p, _, 2, .int (cnt + 1), rfl, rfl, hS1, rfl, _, cnt + 1, rfl, rfl, .inr ⟨by omega, by omega⟩, mix, _, rfl, rfl, _, 29, rfl, rfl, _, 3, rfl, rfl, ⟨by decide, by decide, natAbs_lt bs.1 bs.2⟩, .int pr, rfl, _, pr, rfl, rfl, e2, ?_⟩
      have mx := mod_pos (a := (mix + 99991 * (cnt + 1) * (cnt + 1) + 29) ^ (3 : Int).toNat) e2
      have mx1 : -(2 ^ 64) < (mix + 99991 * (cnt + 1) * (cnt + 1) + 29) ^ (3 : Int).toNat % pr := Int.lt_of_lt_of_le (by decide) mx.1
      have mx2 : (mix + 99991 * (cnt + 1) * (cnt + 1) + 29) ^ (3 : Int).toNat % pr < 2 ^ 64 := Int.lt_trans mx.2 (Int.lt_trans e3 (by decide))
      refine ⟨_, rfl, _, rfl, _, 10007, rfl, rfl, (show (0 : Int) < 10007 by decide), .ref p, rfl, p, _, 2, .int (cnt + 1), rfl, rfl, hS1, rfl, 71, cnt + 1, rfl, rfl, .inl ⟨by decide, by decide⟩, _, _, rfl, rfl,
        _, _, rfl, rfl, .inl ⟨mx1, mx2⟩, _, _, rfl, rfl, (show (0 : Int) < 2305843009213693907 by decide), _, 103, rfl, rfl, ⟨by decide, by decide⟩, .int b, rfl, _, b, rfl, rfl, b1, ?_⟩
      exact q _ _ (mod_pos b1).1 (mod_pos b1).2 (But.trans .set (.new hl)) ⟨_, by rw [upd_ne np, upd_same]; rfl, own, mix, cnt + 1, rfl, h1, h2, h3, h4, by omega, by omega⟩
theorem scOf : FnScope ["pot", "some"] ["pot", "some"] (defScope sOf) := ⟨rfl, rfl, rfl, by decide +kernel, rfl, by decide +kernel, by decide +kernel⟩
theorem ok_of {f g : Addr} {fd gd : FuncData} {k : Nat} (F : Fun K "_law_of" "_law_of" sOf f fd) (T : Fun K "_law_take" "_law_take" sTake g gd) (gT : mg "_law_take" = some (.ref g)) (bT : Binds K gd ["pot", "bound"] [])
    (ml : mg "len" = none) : FnOk P w K mg base CX0 (k + 2) f fd ["pot", "some"] spOf := by
  have GT : FnOk P w K mg base CX0 (k + 1) g gd ["pot", "bound"] spTake := ok_take T
  refine F.ok scOf (fun vs H Q E h => ?_) (fun cdv A outer s H vs Q E hr h => ?_)
  · obtain ⟨p, a, xs, c, rfl, _⟩ := h
    rfl
  · obtain ⟨p, a, xs, c, rfl, hp, hc, ne, ha, h0, hl, q⟩ := h
    refine ⟨_, pss_one (ps_ret (pe_ix ix_list (pv 1) (pe_call GT hr (by rfl) gT T.kp bT .nil pass0 (pa_cons (pv 0) (pa_cons (pe_callB call_len_seq (by rfl) ml PySem.boot_len (pa_cons (pv 1) pa_nil)) pa_nil))) (fun _ _ => rfl))), ?_⟩
    have hS : SqL K H a xs := .inl (.inl ha)
    have hx : 0 < xs.length := List.length_pos_iff.mpr h0
    refine ⟨.ref a, rfl, .ref p, rfl, .ref a, rfl, a, xs, rfl, .inl hS, p, xs.length, c, rfl, hp, hc, by omega, small_pow hl, fun d H' d0 d1 bt pt => ?_⟩
    obtain ⟨j, rfl⟩ := Int.eq_ofNat_of_zero_le d0
    have hj : j < xs.length := by omega
    have g : xs[j]? = some xs[j] := List.getElem?_eq_getElem hj
    exact ⟨a, xs, j, xs[j], rfl, rfl, bt.sql ne hS, atI_nat g, q j _ H' g bt pt⟩
end
/-! ### drawn sequences -/
section
variable {P : Program} {w : World} {K : PySem.W.Frag} {mg : Str → Option Value} {base : Heap}
theorem scSeq : FnScope ["pot", "most", "way", "many", "found", "kinds", "step"] ["pot", "most"] (defScope sSeq) := ⟨rfl, rfl, rfl, by decide +kernel, rfl, by decide +kernel, by decide +kernel⟩
/-- elements -/
def EL (ns : List Nd) : Prop := ∀ n ∈ ns, ∃ k : Nat, n = .el k ∧ k ≤ 10 ^ 9
theorem EL.app {ns : List Nd} {k : Nat} (h : EL ns) (l : k ≤ 10 ^ 9) : EL (ns ++ [.el k]) := fun n hn => by
  rcases List.mem_append.mp hn with hn | hn
  · exact h n hn
  · exact ⟨k, List.mem_singleton.mp hn, l⟩
theorem EL.ok {ns : List Nd} (h : EL ns) : OkAll ns 0 := OkAll.of fun n hn => by
  obtain ⟨k, rfl, l⟩ := h n hn
  unfold Ok
  exact ⟨rfl, l⟩
theorem ndsV_els {H H' : Hp} : ∀ {ns : List Nd} {vs : List V}, EL ns → NdsV K H vs ns → NdsV K H' vs ns
  | [], vs, _, h => by rw [h.inv0]; exact .nil
  | a :: r, vs, e, h => by
    obtain ⟨v, q, rfl, k1, k2⟩ := h.inv
    obtain ⟨k, rfl, _⟩ := e a List.mem_cons_self
    rw [k1.el]
    exact .cons (.ofEl k) (ndsV_els (fun n hn => e n (List.mem_cons_of_mem _ hn)) k2)
def spSeq (K : PySem.W.Frag) : Sp := fun vs H Q _ => ∃ (p : Addr) (most c : Nat), vs = [.ref p, .int most] ∧ most ≤ 200 ∧ Pot H p c ∧ c < 800000 ∧
  ∀ H' a xs ns, But p H H' → H a = none → H' a = some (.lst xs) → NdsV K H' xs ns → EL ns → ns.length ≤ most → Pot H' p (c + 500) → Q (.ref a) H'
theorem ok_seq {f fT fO : Addr} {fd dT dO : FuncData} (F : Fun K "_law_sequence" "_law_sequence" sSeq f fd) (T : Fun K "_law_take" "_law_take" sTake fT dT) (gT : mg "_law_take" = some (.ref fT)) (bT : Binds K dT ["pot", "bound"] [])
    (O : Fun K "_law_of" "_law_of" sOf fO dO) (gO : mg "_law_of" = some (.ref fO)) (bO : Binds K dO ["pot", "some"] []) (ml : mg "len" = none) : FnOk P w K mg base CX0 3 f fd ["pot", "most"] (spSeq K) := by
  have GT : FnOk P w K mg base CX0 2 fT dT ["pot", "bound"] spTake := ok_take T
  have GO : FnOk P w K mg base CX0 2 fO dO ["pot", "some"] spOf := ok_of O T gT bT ml
  refine F.ok scSeq (fun vs H Q E h => ?_) (fun cdv A outer s H vs Q E hr h => ?_)
  · obtain ⟨p, most, c, rfl, _⟩ := h
    rfl
  · obtain ⟨p, most, c, rfl, hm, hp, hc, q⟩ := h
    refine ⟨_, pss_cons (ps_par3 (i := 2) (j := 3) (l := 4) (by rfl) scSeq.nd rfl rfl rfl (by decide) (by decide) (by decide) rfl rfl rfl
          (pa_cons (pe_call GT hr (by rfl) gT T.kp bT .nil pass0 (pa_cons (pv 0) (pa_cons pe_int pa_nil))) (pa_cons (pe_call GT hr (by rfl) gT T.kp bT .nil pass0 (pa_cons (pv 0) (pa_cons (pe_op op_add (pv 1) pe_int) pa_nil))) (pa_cons (pe_lst pa_nil) pa_nil))) (by rfl))
      (pss_cons (ps_par (i := 5) (j := 6) (by rfl) scSeq.nd rfl rfl (by decide) rfl rfl
          (pa_cons (pe_call GO hr (by rfl) gO O.kp bO .nil pass0 (pa_cons (pv 0) (pa_cons (pe_lst (pa_cons pe_int (pa_cons pe_int (pa_cons pe_int (pa_cons pe_int (pa_cons pe_int pa_nil)))))) pa_nil)))
            (pa_cons (pe_op op_add pe_int (pe_call GT hr (by rfl) gT T.kp bT .nil pass0 (pa_cons (pv 0) (pa_cons pe_int pa_nil)))) pa_nil)) (by rfl))
      (pss_cons (ps_while PassesOwn.never (pt_cmpR op_lt (pe_callB call_len_seq (by rfl) ml PySem.boot_len (pa_cons (pv 4) pa_nil)) (pv 3) (nomark _))
        (pss_one (ps_if (PW.pt (pw_and (pt_cmpR op_eq (pv 2) pe_int (nomark _)) (pw_and1 (pt_cmpR op_ge (pe_callB call_len_seq (by rfl) ml PySem.boot_len (pa_cons (pv 4) pa_nil)) (pv 6) (nomark _)))))
          (pss_one (ps_expr (pe_bm PySem.F.plainAttrs_list PySem.F.slot_list_append PySem.F.type_list_append mt_append (pv 4) (pa_cons (pe_ix ix_list (pv 4) (pe_op op_sub (pe_callB call_len_seq (by rfl) ml PySem.boot_len (pa_cons (pv 4) pa_nil)) (pv 6)) (fun _ _ => rfl)) pa_nil))))
          (pss_one (ps_if (pt_cmpR op_eq (pv 2) pe_int (nomark _))
            (pss_one (ps_expr (pe_bm PySem.F.plainAttrs_list PySem.F.slot_list_append PySem.F.type_list_append mt_append (pv 4) (pa_cons (pe_op op_mod (pe_op op_mul (pe_callB call_len_seq (by rfl) ml PySem.boot_len (pa_cons (pv 4) pa_nil)) (pv 6)) pe_int) pa_nil))))
            (pss_one (ps_if (pt_cmpR op_eq (pv 2) pe_int (nomark _))
              (pss_one (ps_expr (pe_bm PySem.F.plainAttrs_list PySem.F.slot_list_append PySem.F.type_list_append mt_append (pv 4) (pa_cons (pe_call GO hr (by rfl) gO O.kp bO .nil pass0 (pa_cons (pv 0) (pa_cons (pe_lst (pa_cons pe_int (pa_cons pe_int (pa_cons pe_int (pa_cons pe_int
                (pa_cons (pe_op op_pow pe_int pe_int) (pa_cons (pe_call GT hr (by rfl) gT T.kp bT .nil pass0 (pa_cons (pv 0) (pa_cons (pe_op op_add (pe_op op_pow pe_int pe_int) pe_int) pa_nil))) pa_nil))))))) pa_nil))) pa_nil))))
              (pss_one (ps_if (PW.pt (pw_and (pt_cmpR op_eq (pv 2) pe_int (nomark _)) (pw_and1 (pt_cmpR (op_neD hr.units) (pv 4) (pe_lst pa_nil) (nomark _)))))
                (pss_one (ps_expr (pe_bm PySem.F.plainAttrs_list PySem.F.slot_list_append PySem.F.type_list_append mt_append (pv 4) (pa_cons (pe_ifExp (pt_cmpR op_gt (pe_call GT hr (by rfl) gT T.kp bT .nil pass0 (pa_cons (pv 0) (pa_cons pe_int pa_nil))) pe_int (nomark _))
                  (pe_ix ix_list (pv 4) (pe_un un_neg pe_int) (fun _ _ => rfl)) (pe_call GT hr (by rfl) gT T.kp bT .nil pass0 (pa_cons (pv 0) (pa_cons (pv 5) pa_nil)))) pa_nil))))
                (pss_one (ps_expr (pe_bm PySem.F.plainAttrs_list PySem.F.slot_list_append PySem.F.type_list_append mt_append (pv 4) (pa_cons (pe_call GT hr (by rfl) gT T.kp bT .nil pass0 (pa_cons (pv 0) (pa_cons (pv 5) pa_nil))) pa_nil)))))))))))))
      (pss_one (ps_ret (pv 4))))), ?_⟩
    refine ⟨.ref p, rfl, p, 6, c, rfl, hp, by omega, by decide, by decide +kernel, fun way H1 y0 y1 b1 p1 => ?_⟩
    refine ⟨.ref p, rfl, _, rfl, _, 1, rfl, rfl, p, _, _, rfl, p1, by omega, by omega, ?_, fun many H2 z0 z1 b2 p2 => ?_⟩
    · exact Int.lt_of_le_of_lt (show ((most : Nat) : Int) + 1 ≤ 201 by omega) (by decide +kernel)
    refine ⟨(show 0 ≤ sizeLine from by decide), fun FF nF => ⟨_, _, _, rfl, ?_⟩⟩
    refine ⟨.ref p, rfl, (show 5 ≤ sizeLine from by decide), fun l5 nl5 => ?_⟩
    have p3 := p2.new (o := .lst []) nF
    have nFp : FF ≠ p := p2.ne nF
    refine ⟨p, l5, _, _, rfl, p3.new nl5, by omega, p3.ne nl5, upd_same, List.cons_ne_nil _ _, (show 5 ≤ 1000 from by decide), fun j x H3 hj b3 p4 => ?_⟩
    obtain ⟨kn, rfl, kn1, kn2⟩ : ∃ n : Nat, x = .int n ∧ 1 ≤ n ∧ n ≤ 10 := by
      have := List.mem_of_getElem? hj
      simp only [List.mem_cons, List.not_mem_nil, or_false] at this
      rcases this with rfl | rfl | rfl | rfl | rfl
      · exact ⟨2, rfl, by decide, by decide⟩
      · exact ⟨2, rfl, by decide, by decide⟩
      · exact ⟨3, rfl, by decide, by decide⟩
      · exact ⟨4, rfl, by decide, by decide⟩
      · exact ⟨10, rfl, by decide, by decide⟩
    refine ⟨.ref p, rfl, p, 7, _, rfl, p4, by omega, by decide, by decide +kernel, fun d H4 d0 d1 b4 p5 => ⟨1, d, rfl, rfl, _, _, rfl, ?_⟩⟩
    have d1' : d < 7 := d1
    have bA : But p H H4 := ((b1.trans b2).trans (.new nF)).trans ((But.new nl5).trans (b3.trans b4))
    have gF : H4 FF = some (.lst []) := (b3.trans b4).at nFp (sameN nl5 _ _ upd_same)
    have nFH : H FF = none := (b1.trans b2).freeP p2 nF
    have z1' : many < ((most : Nat) : Int) + 1 := z1
    obtain ⟨mn, rfl⟩ : ∃ mn : Nat, many = mn := ⟨many.toNat, by omega⟩
    refine ⟨fun m' σ H' => ∃ xs ns, m' = mn - ns.length ∧ ns.length ≤ mn ∧ σ = [some (.ref p), some (.int most), some (.int way), some (.int (mn : Nat)), some (.ref FF), some (.int (kn : Nat)), some (.int (1 + d))] ∧ H' FF = some (.lst xs) ∧ NdsV K H' xs ns ∧ EL ns ∧ But p H H' ∧ Pot H' p (c + 5 + 2 * ns.length),
      ⟨mn, [], [], rfl, Nat.zero_le _, rfl, gF, .nil, (fun n hn => nomatch hn), bA, p5.le (by omega)⟩, ?_⟩
    rintro m' σ H5 ⟨xs, ns, rfl, hle, rfl, e1, e2, e3, e5, e6⟩
    have hlx := e2.len
    refine ⟨.ref FF, rfl, FF, xs, rfl, .inl (.inl (.inl e1)), _, rfl, _, _, rfl, rfl, _, rfl, ite2 (fun e => ?_) (fun e => ?_)⟩
    · have hlt : ns.length < mn := by
        have : ((xs.length : Nat) : Int) < (mn : Int) := of_decide_eq_true e
        omega
      refine ⟨fun σ' H' => ∃ xs ns', ns'.length = ns.length + 1 ∧ σ' = [some (.ref p), some (.int most), some (.int way), some (.int (mn : Nat)), some (.ref FF), some (.int (kn : Nat)), some (.int (1 + d))] ∧ H' FF = some (.lst xs) ∧ NdsV K H' xs ns' ∧ EL ns' ∧ But p H H' ∧ Pot H' p (c + 5 + 2 * ns'.length), fun σ' H' hN => ?_, ?_⟩
      · obtain ⟨x2, n2, k1, k2, k3⟩ := hN
        exact ⟨mn - n2.length, by omega, x2, n2, rfl, by omega, k2, k3⟩
      have lx : xs.length < sizeLine := line5 (by omega)
      have fin : ∀ (H6 : Hp) (v : V) (k : Nat), v = .int k → k ≤ 10 ^ 9 → But p H5 H6 → Pot H6 p (c + 5 + 2 * ns.length + 2) → ∃ xs' ns', ns'.length = ns.length + 1 ∧ [some (V.ref p), some (.int most), some (.int way), some (.int (mn : Nat)), some (.ref FF), some (.int (kn : Nat)), some (.int (1 + d))] = [some (V.ref p), some (.int most), some (.int way), some (.int (mn : Nat)), some (.ref FF), some (.int (kn : Nat)), some (.int (1 + d))] ∧
          (upd H6 FF (.lst (xs ++ [v]))) FF = some (.lst xs') ∧ NdsV K (upd H6 FF (.lst (xs ++ [v]))) xs' ns' ∧ EL ns' ∧ But p H (upd H6 FF (.lst (xs ++ [v]))) ∧ Pot (upd H6 FF (.lst (xs ++ [v]))) p (c + 5 + 2 * ns'.length) := fun H6 v k ev hk b6 p6 => by
        refine ⟨xs ++ [v], ns ++ [.el k], by rw [List.length_append]; rfl, rfl, upd_same, (ndsV_els e3 e2).app (.one (by rw [ev]; exact .ofEl k)), e3.app hk, (e5.trans b6).wr nFH, ?_⟩
        refine (p6.oth nFp.symm).le ?_
        rw [List.length_append]
        simp
        omega
      have at5 : ∀ H6, But p H5 H6 → H6 FF = some (.lst xs) := fun H6 b6 => b6.at nFp e1
      refine ifs_any (fun b H' => H5 = H' ∧ (b = true → 1 + d ≤ ns.length)) (fun b H6 hS => ?_) (fun R hR => ?_)
      · obtain ⟨rfl, hb⟩ := hS
        cases b with
        | true =>
          have hb := hb rfl
          obtain ⟨n, hn⟩ := get_of (l := ns) (i := ns.length - (1 + d).toNat) (by omega)
          obtain ⟨u, eu, ku⟩ := e2.at hn
          obtain ⟨k, rfl, hk⟩ := e3 n (List.mem_of_getElem? hn)
          refine ⟨.ref FF, rfl, .inl ⟨rfl, _, .inl (.inl e1)⟩, .ref FF, rfl, .ref FF, rfl, FF, xs, rfl, .inl (.inl (.inl e1)), _, rfl, _, _, rfl, rfl, FF, xs, ((ns.length - (1 + d).toNat : Nat) : Int), u, rfl, int_congr (by omega), .inl (.inl e1), atI_nat eu, FF, _, _, rfl, rfl, e1, lx, fin H5 u k ku.el hk (.refl p H5) (e6.le (by omega))⟩
        | false =>
          refine ⟨_, rfl, rfl, _, rfl, ite2 (fun e => ?_) (fun e => ?_)⟩
          · have hb0 : (0 : Int) ≤ ((xs.length : Nat) : Int) * (1 + d) := Int.mul_nonneg (by omega) (by omega)
            refine ⟨.ref FF, rfl, .inl ⟨rfl, _, .inl (.inl e1)⟩, .ref FF, rfl, FF, xs, rfl, .inl (.inl (.inl e1)), _, rfl, _, _, rfl, rfl, .inl ⟨?_, ?_⟩, _, 1000000007, rfl, rfl, (show (0 : Int) < 1000000007 by decide), FF, _, _, rfl, rfl, e1, lx, fin H5 _ ((((xs.length : Nat) : Int) * (1 + d)) % 1000000007).toNat (int_congr ?_) ?_ (.refl p H5) (e6.le (by omega))⟩
            · omega
            · omega
            · exact (Int.toNat_of_nonneg (Int.emod_nonneg _ (by decide))).symm
            · have h2 : ((xs.length : Nat) : Int) * (1 + d) ≤ 200 * 7 := Int.mul_le_mul (by omega) (by omega) (by omega) (by decide)
              rw [Int.emod_eq_of_lt hb0 (by omega)]
              omega
          · refine ⟨_, rfl, rfl, _, rfl, ite2 (fun e => ?_) (fun e => ?_)⟩
            · refine ⟨.ref FF, rfl, .inl ⟨rfl, _, .inl (.inl e1)⟩, .ref p, rfl, 10, 9, rfl, rfl, ⟨by decide, by decide, by decide⟩, .ref p, rfl, 10, 9, rfl, rfl, ⟨by decide, by decide, by decide⟩, _, 1, rfl, rfl, p, _, _, rfl, e6, by omega, (by decide), (by decide +kernel), fun d5 H7 d50 d51 b7 p7 => ⟨(show 6 ≤ sizeLine from by decide), fun l6 n6 =>
                ⟨p, l6, _, _, rfl, p7.new n6, by omega, p7.ne n6, upd_same, List.cons_ne_nil _ _, (show 6 ≤ 1000 from by decide), fun j x H8 hj b8 p8 => ?_⟩⟩⟩
              have d51' : d5 < 1000000001 := d51
              have sm2 : Smalls (10 ^ 9) [V.int 0, .int 1, .int 12, .int 120, .int ((10 : Int) ^ (9 : Int).toNat), .int d5] :=
                .cons (n := 0) rfl (by decide) (.cons (n := 1) rfl (by decide) (.cons (n := 12) rfl (by decide) (.cons (n := 120) rfl (by decide) (.cons (n := 10 ^ 9) rfl (by decide) (.cons (n := d5.toNat) (int_congr (by omega)) (by omega) .nil)))))
              obtain ⟨k, rfl, hk⟩ := sm2.at hj
              have b58 := (b7.trans (.new n6)).trans b8
              exact ⟨FF, _, _, rfl, rfl, at5 _ b58, lx, fin H8 _ k rfl hk b58 (p8.le (by omega))⟩
            · refine ifs_any (fun b H' => Same H5 H' ∧ (b = true → ns ≠ [])) (fun b H6 hS => ?_) (fun R hR => ?_)
              · obtain ⟨s6, hb⟩ := hS
                have f6 := s6 _ _ e1
                have p6 : Pot H6 p (c + 5 + 2 * ns.length) := by
                  obtain ⟨o, ho, po⟩ := e6
                  exact ⟨o, s6 _ _ ho, po⟩
                have b56 : But p H5 H6 := Same.but s6
                cases b with
                | true =>
                  have hb := hb rfl
                  refine ⟨.ref FF, rfl, .inl ⟨rfl, _, .inl (.inl f6)⟩, .ref p, rfl, p, 3, _, rfl, p6, by omega, by decide, by decide +kernel, fun d6 H7 _ _ b7 p7 => ⟨d6, 0, rfl, rfl, _, rfl, ite2 (fun e => ?_) (fun e => ?_)⟩⟩
                  · rcases List.eq_nil_or_concat ns with rfl | ⟨init, z, rfl⟩
                    · exact absurd rfl hb
                    · rw [List.concat_eq_append] at *
                      obtain ⟨u, eu, ku⟩ := e2.last
                      obtain ⟨k, rfl, hk⟩ := e3 z (by simp)
                      have b57 := b56.trans b7
                      have f7 := at5 _ b57
                      exact ⟨.ref FF, rfl, 1, rfl, FF, xs, -1, u, rfl, rfl, .inl (.inl f7), eu, FF, _, _, rfl, rfl, f7, lx, fin H7 u k ku.el hk b57 (p7.le (by omega))⟩
                  · refine ⟨.ref p, rfl, _, rfl, p, (kn : Nat), _, rfl, p7, by omega, by omega, Int.lt_of_le_of_lt (show ((kn : Nat) : Int) ≤ 10 by omega) (by decide +kernel), fun d8 H8 d80 d81 b8 p8 => ?_⟩
                    have b58 := (b56.trans b7).trans b8
                    exact ⟨FF, _, _, rfl, rfl, at5 _ b58, lx, fin H8 _ d8.toNat (int_congr (by omega)) (by omega) b58 (p8.le (by omega))⟩
                | false =>
                  refine ⟨.ref FF, rfl, .inl ⟨rfl, _, .inl (.inl f6)⟩, .ref p, rfl, _, rfl, p, (kn : Nat), _, rfl, p6, by omega, by omega, Int.lt_of_le_of_lt (show ((kn : Nat) : Int) ≤ 10 by omega) (by decide +kernel), fun d8 H8 d80 d81 b8 p8 => ?_⟩
                  have b58 := b56.trans b8
                  exact ⟨FF, _, _, rfl, rfl, at5 _ b58, lx, fin H8 _ d8.toNat (int_congr (by omega)) (by omega) b58 (p8.le (by omega))⟩
              · refine ⟨_, rfl, rfl, _, rfl, ite2 (fun e => ?_) (fun e => hR _ _ ⟨Same.refl H5, fun z => nomatch z⟩)⟩
                refine ⟨.ref FF, rfl, (show 0 ≤ sizeLine from by decide), fun l9 hl9 => ⟨_, _, .lst (.inl (.inl (sameN hl9 _ _ e1))) (e2.up (.of (sameN hl9))), .lst (.inl (.inl upd_same)) .nil, (shaped_all e3.ok (by decide)).1, shaped_nil, _, rfl, hR _ _ ⟨sameN hl9, fun z => ?_⟩⟩⟩
                rintro rfl
                rw [eqv_emptyN] at z
                cases z
      · refine ⟨_, rfl, rfl, _, rfl, ite2 (fun e => ?_) (fun e => hR _ _ ⟨rfl, fun z => nomatch z⟩)⟩
        exact ⟨.ref FF, rfl, FF, xs, rfl, .inl (.inl (.inl e1)), _, rfl, _, _, rfl, rfl, _, rfl, hR _ _ ⟨rfl, fun z => by
          have := of_decide_eq_true z
          omega⟩⟩
    · exact ⟨_, rfl, q H5 FF xs ns e5 nFH e1 e2 e3 (by omega) (e6.le (by omega))⟩
end
theorem grp_more (ns : List Nd) (i : Nat) (n : Nd) (h : ns[i]? = some n) : grp (ns.take (i + 1)) = stepG (grp (ns.take i)) n := by
  rw [take_more h, grp_app]
section
variable {P : Program} {w : World} {K : PySem.W.Frag} {mg : Str → Option Value} {base : Heap}
theorem scLRuns : FnScope ["some", "found", "one"] ["some"] (defScope sLRuns) := ⟨rfl, rfl, rfl, by decide +kernel, rfl, by decide +kernel, by decide +kernel⟩
def spLRuns (K : PySem.W.Frag) : Sp := fun vs H Q _ => ∃ (a : Addr) (us : List V) (ns : List Nd) (l : Nat), vs = [.ref a] ∧ SqL K H a us ∧ NdsV K H us ns ∧ OkAll ns l ∧ l ≤ 20 ∧ ns.length ≤ 100000 ∧
  ∀ H' p ws, Same H H' → H' p = some (.tup ws) → PrsV K H' ws (grp ns) → Q (.ref p) H'
theorem ok_lruns {f : Addr} {fd : FuncData} {k : Nat} (F : Fun K "_law_runs" "_law_runs" sLRuns f fd) (mt : mg "tuple" = none) : FnOk P w K mg base CX0 (k + 1) f fd ["some"] (spLRuns K) := by
  refine F.ok scLRuns (fun vs H Q E h => ?_) (fun cdv A outer s H vs Q E hr h => ?_)
  · obtain ⟨a, us, ns, l, rfl, _⟩ := h
    rfl
  · obtain ⟨a, us, ns, l, rfl, hS, hn, ok, l20, hlen, q⟩ := h
    refine ⟨_, pss_cons (ps_set (i := 1) scLRuns.nd rfl (.inl rfl) (pe_lst pa_nil))
      (pss_cons (ps_for PassesOwn.never rfl (pi_list (pv 0)) (pg_name (i := 2) scLRuns.nd rfl (.inl rfl))
        (pss_one (ps_if (PW.pt (pw_and (pt_cmpR (op_neD hr.units) (pv 1) (pe_lst pa_nil) (nomark _)) (pw_and1 (pt_cmpR (op_eqD hr.units) (pe_ix ix_tup (pe_ix ix_list (pv 1) (pe_un un_neg pe_int) (fun _ _ => rfl)) pe_int (fun _ _ => rfl)) (pv 2) (nomark _)))))
          (pss_one (ps_asg (pe_tup (pa_cons (pv 2) (pa_cons (pe_op op_add (pe_ix ix_tup (pe_ix ix_list (pv 1) (pe_un un_neg pe_int) (fun _ _ => rfl)) pe_int (fun _ _ => rfl)) pe_int) pa_nil))) (pg_sub (pv 1) (pe_un un_neg pe_int) set_list)))
          (pss_one (ps_expr (pe_bm PySem.F.plainAttrs_list PySem.F.slot_list_append PySem.F.type_list_append mt_append (pv 1) (pa_cons (pe_tup (pa_cons (pv 2) (pa_cons pe_int pa_nil))) pa_nil)))))))
      (pss_one (ps_ret (pe_callTy call_tuple_of (by rfl) mt PyProof.Rows.boot_tuple (pa_cons (pv 1) pa_nil))))), ?_⟩
    have hlu := hn.len
    refine ⟨(show 0 ≤ sizeLine from by decide), fun F0 hF => ?_⟩
    have s0 := sameN (o := .lst []) hF
    refine ⟨.ref a, rfl, a, rfl, ⟨us, s0.seq hS⟩, ?_⟩
    refine for_list (xs := us) (fun i σ H' => ∃ ws y2, σ = [some (.ref a), some (.ref F0), y2] ∧ H' F0 = some (.lst ws) ∧ PrsV K H' ws (grp (ns.take i)) ∧ Same H H') ⟨[], none, rfl, upd_same, ?_, s0⟩ (fun i σ H' _ hp => ?_) (fun i x σ H1 hx hp => ?_) (fun σ H' hp => ?_)
    · rw [List.take_zero]
      exact .nil
    · obtain ⟨_, _, _, _, _, e⟩ := hp
      exact e.seq hS
    · obtain ⟨ws, y2, rfl, e1, e2, s1⟩ := hp
      obtain ⟨n, hni, kn⟩ := (hn.up (.of s1)).get hx
      have okn := ok.mem n (List.mem_of_getElem? hni)
      have okg : ∀ p ∈ grp (ns.take i), Ok p.1 l := fun p hp => ok.mem _ (List.mem_of_mem_take (grp_foot _ p hp).1)
      have lw : ws.length < sizeLine := by
        rw [DpAll.len e2, List.length_map]
        have g1 := grp_len (ns.take i)
        rw [List.length_take] at g1
        exact line5 (by omega)
      have gm := grp_more ns i n hni
      refine ifs_any (fun b H' => Same H1 H' ∧ (b = true → ∃ r c, grp (ns.take i) = r ++ [(n, c)]) ∧ (b = false → ∀ m c, (grp (ns.take i)).getLast? = some (m, c) → m ≠ n)) (fun b H2 hS2 => ?_) (fun R hR => ?_)
      · obtain ⟨s2, nb1, nb2⟩ := hS2
        have f2 := s2 _ _ e1
        have d2 := e2.up (.of s2)
        cases b with
        | true =>
          obtain ⟨r, c, er⟩ := nb1 rfl
          rw [er] at d2
          obtain ⟨w1, ra, u, rfl, k1, t1, t2⟩ := d2.split
          · skip
            refine ⟨x, rfl, .ref F0, rfl, 1, rfl, F0, _, -1, .ref ra, rfl, rfl, .inl (.inl f2), atI_last _ _, ra, _, 1, .int c, rfl, rfl, t1, rfl, c, 1, rfl, rfl, (show 2 ≤ sizeLine from by decide), fun t ht => ?_⟩
            have s3 := sameN (o := .tup [x, .int ((c : Int) + 1)]) ht
            have f3 := s3 _ _ f2
            refine ⟨.ref F0, rfl, 1, rfl, F0, w1 ++ [.ref ra], -1, w1.length, rfl, rfl, f3, ?_, w1 ++ [.ref t], _, rfl, ?_, ?_, sameW (s1.trans (s2.trans s3)) hF⟩
            · rw [List.length_append]
              exact ixN_last
            · rw [upd_same, List.set_append_right _ _ (Nat.le_refl _)]
              simp
            · rw [gm, er, stepG_eq]
              have tt : Tups K (upd H2 t (.tup [x, .int ((c : Int) + 1)])) (upd (upd H2 t (.tup [x, .int ((c : Int) + 1)])) F0 (.lst ((w1 ++ [V.ref ra]).set w1.length (V.ref t)))) := (But.set (p := F0)).tups f3
              refine PrsV.app (PrsV.up tt (PrsV.up (.of s3) k1)) (PrsV.one (p := (n, c + 1)) (tt _ _ (.inl (.inl ?_))) (((kn.up (.of s2)).up (.of s3)).up tt))
              rw [upd_same]
              exact congrArg (fun z => some (HO.tup [x, z])) (int_congr (by omega))
        | false =>
          have ne := stepG_ne (nb2 rfl)
          refine ⟨.ref F0, rfl, .inl ⟨rfl, _, .inl (.inl f2)⟩, x, rfl, (show 2 ≤ sizeLine from by decide), fun t ht => ?_⟩
          have s3 := sameN (o := .tup [x, .int 1]) ht
          have f3 := s3 _ _ f2
          refine ⟨F0, _, _, rfl, rfl, f3, lw, ws ++ [.ref t], _, rfl, upd_same, ?_, sameW (s1.trans (s2.trans s3)) hF⟩
          rw [gm, ne]
          have tt : Tups K (upd H2 t (.tup [x, .int 1])) (upd (upd H2 t (.tup [x, .int 1])) F0 (.lst (ws ++ [.ref t]))) := (But.set (p := F0)).tups f3
          exact PrsV.app (PrsV.up tt (PrsV.up (.of s3) d2)) (PrsV.one (p := (n, 1)) (tt _ _ (.inl (.inl upd_same))) (((kn.up (.of s2)).up (.of s3)).up tt))
      · refine ⟨.ref F0, rfl, (show 0 ≤ sizeLine from by decide), fun l9 hl9 => ⟨_, _, .lst (.inl (.inl ?_)) (e2.up (.of (sameN hl9))), .lst (.inl (.inl upd_same)) .nil, shaped_prs okg l20, shaped_nil, _, rfl, ?_⟩⟩
        · rw [upd_ne (ne_of_none e1 hl9)]
          exact e1
        · rw [eqv_emptyP]
          have s9 := sameN (o := .lst []) hl9
          rcases List.eq_nil_or_concat (grp (ns.take i)) with z | ⟨init, ⟨m, c⟩, z⟩
          · rw [z]
            exact hR _ _ ⟨s9, (fun z => nomatch z), fun _ m c hm => by rw [z] at hm; cases hm⟩
          · rw [List.concat_eq_append] at z
            have d9 := e2.up (.of s9)
            rw [z] at d9
            obtain ⟨w1, ra, u, rfl, k1, t1, t2⟩ := d9.split
            · skip
              have okm : Ok m l := okg (m, c) (by rw [z]; simp)
              have z0 : (grp (ns.take i)).isEmpty = false := by rw [z]; simp
              rw [z0]
              refine ⟨.ref F0, rfl, 1, rfl, F0, _, -1, .ref ra, rfl, rfl, .inl (.inl (s9 _ _ e1)), atI_last _ _, ra, _, 0, u, rfl, rfl, t1, rfl, x, rfl, _, _, t2, kn.up (.of s9), shaped_dat okm l20, shaped_dat okn l20, _, rfl, hR _ _ ⟨s9, fun eb => ?_, fun eb m' c' hm => ?_⟩⟩
              · have : m = n := (eqv_dat _ _).mp eb
                exact ⟨init, c, by rw [z, this]⟩
              · rw [z, List.getLast?_append] at hm
                have : m = m' ∧ c = c' := by simpa using hm
                rw [← this.1]
                intro eq
                rw [eqv_yes eq] at eb
                cases eb
    · obtain ⟨ws, y2, rfl, e1, e2, s1⟩ := hp
      rw [hlu, List.take_length] at e2
      exact ⟨.ref F0, rfl, F0, ws, rfl, .inl ⟨.inl (.inl e1), fun t nt => q _ t ws (s1.trans (sameN nt)) upd_same (PrsV.up (.of (sameN nt)) e2)⟩⟩
end
/-! ### runs of any width -/
section
variable {P : Program} {w : World} {K : PySem.W.Frag} {mg : Str → Option Value} {base : Heap}
/-- pairs of runs -/
def Giv (gs : List (Nd × Nat)) : Prop := (∀ p ∈ gs, (∃ k : Nat, p.1 = .el k ∧ k ≤ 10 ^ 9) ∧ 1 ≤ p.2 ∧ p.2 ≤ 10 ^ 60) ∧ ∀ (i : Nat) p q, gs[i]? = some p → gs[i + 1]? = some q → p.1 ≠ q.1
theorem stepG_unl {acc : List (Nd × Nat)} {n : Nd} (h : ∀ (i : Nat) p q, acc[i]? = some p → acc[i + 1]? = some q → p.1 ≠ q.1) : ∀ (i : Nat) p q, (stepG acc n)[i]? = some p → (stepG acc n)[i + 1]? = some q → p.1 ≠ q.1 := by
  intro i p q hp hq
  rcases List.eq_nil_or_concat acc with rfl | ⟨r, ⟨m, c⟩, rfl⟩
  · rw [stepG_ne (fun m c hm => by cases hm)] at hq
    simp at hq
  · rw [List.concat_eq_append] at *
    by_cases e : m = n
    · subst e
      rw [stepG_eq] at hp hq
      by_cases c1 : i + 1 < r.length
      · rw [List.getElem?_append_left (by omega)] at hp hq
        exact h i p q (by rw [List.getElem?_append_left (by omega)]; exact hp) (by rw [List.getElem?_append_left c1]; exact hq)
      · by_cases c2 : i + 1 = r.length
        · rw [List.getElem?_append_left (by omega)] at hp
          rw [List.getElem?_append_right (by omega), show i + 1 - r.length = 0 by omega] at hq
          have hq := Option.some.inj hq
          have := h i p (m, c) (by rw [List.getElem?_append_left (by omega)]; exact hp) (by rw [List.getElem?_append_right (by omega), show i + 1 - r.length = 0 by omega]; rfl)
          rw [← hq]
          exact this
        · rw [List.getElem?_eq_none_iff.mpr (by simp; omega)] at hq
          cases hq
    · rw [stepG_ne (fun m' c' hm => by
        rw [List.getLast?_append] at hm
        have : m = m' ∧ c = c' := by simpa using hm
        rw [← this.1]
        exact e)] at hp hq
      by_cases c1 : i + 1 < (r ++ [(m, c)]).length
      · rw [List.getElem?_append_left (by omega)] at hp
        rw [List.getElem?_append_left c1] at hq
        exact h i p q hp hq
      · by_cases c2 : i + 1 = (r ++ [(m, c)]).length
        · rw [List.getElem?_append_left (by omega)] at hp
          rw [List.getElem?_append_right (by omega), show i + 1 - (r ++ [(m, c)]).length = 0 by omega] at hq
          have hq := Option.some.inj hq
          rw [List.length_append] at c2
          rw [List.getElem?_append_right (by simp at c2; omega), show i - r.length = 0 by simp at c2; omega] at hp
          have hp := Option.some.inj hp
          rw [← hp, ← hq]
          exact e
        · rw [List.getElem?_eq_none_iff.mpr (by rw [List.length_append]; simp at c1 c2 ⊢; omega)] at hq
          cases hq
theorem grp_unl : ∀ (k : Nat) (ns : List Nd), ns.length = k → ∀ (i : Nat) p q, (grp ns)[i]? = some p → (grp ns)[i + 1]? = some q → p.1 ≠ q.1
  | 0, ns, e, i, p, q, hp, _ => by
    rw [List.eq_nil_of_length_eq_zero e] at hp
    unfold grp at hp
    simp at hp
  | k + 1, ns, e, i, p, q, hp, hq => by
    rcases List.eq_nil_or_concat ns with rfl | ⟨r, n, rfl⟩
    · simp at e
    · rw [List.concat_eq_append] at *
      rw [grp_app] at hp hq
      exact stepG_unl (grp_unl k r (by simpa using e)) i p q hp hq
theorem giv_grp {ns : List Nd} (h : EL ns) (l : ns.length ≤ 200) : Giv (grp ns) := ⟨fun p hp => by
  obtain ⟨h1, h2, h3⟩ := grp_foot ns p hp
  exact ⟨h p.1 h1, h2, Nat.le_trans h3 (Nat.le_trans l (by decide))⟩, grp_unl _ ns rfl⟩
end
section
variable {P : Program} {w : World} {K : PySem.W.Frag} {mg : Str → Option Value} {base : Heap}
theorem scWide : FnScope ["pot", "most", "found", "one", "count"] ["pot", "most"] (defScope sWide) := ⟨rfl, rfl, rfl, by decide +kernel, rfl, by decide +kernel, by decide +kernel⟩
def spWide (K : PySem.W.Frag) : Sp := fun vs H Q _ => ∃ (p : Addr) (most c : Nat), vs = [.ref p, .int most] ∧ most ≤ 200 ∧ Pot H p c ∧ c < 700000 ∧
  ∀ H' a ws gs, But p H H' → H a = none → H' a = some (.tup ws) → PrsV K H' ws gs → Giv gs → (∀ x ∈ gs, x.2 ≤ 10 ^ 18) → gs.length ≤ most → Pot H' p (c + 1000) → Q (.ref a) H'
theorem prs_up {p : Addr} {c : Nat} {H H' : Hp} {gs : List (Nd × Nat)} {ws : List V} (e : But p H H') (hp : Pot H p c) (h : PrsV K H ws gs) : PrsV K H' ws gs := PrsV.up (e.tupsP hp) h
theorem ok_wide {f fT fO fS fR : Addr} {fd dT dO dS dR : FuncData} (F : Fun K "_law_wide" "_law_wide" sWide f fd) (T : Fun K "_law_take" "_law_take" sTake fT dT) (gT : mg "_law_take" = some (.ref fT)) (bT : Binds K dT ["pot", "bound"] [])
    (O : Fun K "_law_of" "_law_of" sOf fO dO) (gO : mg "_law_of" = some (.ref fO)) (bO : Binds K dO ["pot", "some"] []) (S : Fun K "_law_sequence" "_law_sequence" sSeq fS dS) (gS : mg "_law_sequence" = some (.ref fS)) (bS : Binds K dS ["pot", "most"] [])
    (R : Fun K "_law_runs" "_law_runs" sLRuns fR dR) (gR : mg "_law_runs" = some (.ref fR)) (bR : Binds K dR ["some"] []) (ml : mg "len" = none) (mt : mg "tuple" = none) : FnOk P w K mg base CX0 4 f fd ["pot", "most"] (spWide K) := by
  have GT : FnOk P w K mg base CX0 2 fT dT ["pot", "bound"] spTake := ok_take T
  have GO : FnOk P w K mg base CX0 2 fO dO ["pot", "some"] spOf := ok_of O T gT bT ml
  have GS : FnOk P w K mg base CX0 3 fS dS ["pot", "most"] (spSeq K) := ok_seq S T gT bT O gO bO ml
  have GR : FnOk P w K mg base CX0 3 fR dR ["some"] (spLRuns K) := ok_lruns R mt
  refine F.ok scWide (fun vs H Q E h => ?_) (fun cdv A outer s H vs Q E hr h => ?_)
  · obtain ⟨p, most, c, rfl, _⟩ := h
    rfl
  · obtain ⟨p, most, c, rfl, hm, hp, hc, q⟩ := h
    have r2 := hr.mono (j := 2) (by omega)
    refine ⟨_, pss_cons (ps_set (i := 2) scWide.nd rfl (.inl rfl) (pe_lst pa_nil))
      (pss_cons (ps_for PassesOwn.never rfl (pi_tup (pe_call GR hr (by rfl) gR R.kp bR .nil pass0 (pa_cons (pe_call GS hr (by rfl) gS S.kp bS .nil pass0 (pa_cons (pv 0) (pa_cons (pv 1) pa_nil))) pa_nil)))
          (pg_tup rfl (pgs_cons (pg_name (i := 3) scWide.nd rfl (.inl rfl)) (pgs_cons (pg_name (i := 4) scWide.nd rfl (.inl rfl)) pgs_nil)))
        (pss_one (ps_expr (pe_bm PySem.F.plainAttrs_list PySem.F.slot_list_append PySem.F.type_list_append mt_append (pv 2) (pa_cons (pe_tup (pa_cons (pv 3) (pa_cons (pe_call GO r2 (by rfl) gO O.kp bO .nil pass0 (pa_cons (pv 0)
          (pa_cons (pe_lst (pa_cons (pv 4) (pa_cons (pv 4) (pa_cons pe_int (pa_cons pe_int (pa_cons pe_int (pa_cons (pe_op op_pow pe_int pe_int)
            (pa_cons (pe_op op_add pe_int (pe_call GT r2 (by rfl) gT T.kp bT .nil pass0 (pa_cons (pv 0) (pa_cons (pe_op op_pow pe_int pe_int) pa_nil)))) pa_nil)))))))) pa_nil))) pa_nil))) pa_nil)))))
      (pss_one (ps_ret (pe_callTy call_tuple_of (by rfl) mt PyProof.Rows.boot_tuple (pa_cons (pv 2) pa_nil))))), ?_⟩
    refine ⟨(show 0 ≤ sizeLine from by decide), fun FF nF => ?_⟩
    have nFp := hp.ne nF
    refine ⟨.ref p, rfl, _, rfl, p, most, c, rfl, hm, hp.new nF, by omega, fun H1 a xs ns b1 na ha kn eln ln p1 => ?_⟩
    have l2 : ns.length ≤ 200 := by omega
    refine ⟨a, xs, ns, 0, rfl, .inl (.inl ha), kn, eln.ok, by decide, by omega, fun H2 rt ws s2 hrt kP => ?_⟩
    have giv := giv_grp eln l2
    have lg := grp_len ns
    have g200 : ∀ p ∈ grp ns, p.2 ≤ 200 := fun p hp => Nat.le_trans (grp_foot ns p hp).2.2 l2
    generalize grp ns = gs at kP giv lg g200
    have f1 := b1.at nFp upd_same
    have f2 := s2 _ _ f1
    have p2 : Pot H2 p (c + 500) := by
      obtain ⟨o, ho, po⟩ := p1
      exact ⟨o, s2 _ _ ho, po⟩
    have b02 : But p H H2 := ((But.new nF).trans b1).trans (Same.but s2)
    refine ⟨rt, rfl, ⟨ws, .inl (.inl hrt)⟩, ?_⟩
    refine for_tup (xs := ws) (fun i σ H' => ∃ (y3 y4 : Option V) (vs' : List V) (hs : List (Nd × Nat)), σ = [some (.ref p), some (.int most), some (.ref FF), y3, y4] ∧ H' FF = some (.lst vs') ∧ PrsV K H' vs' hs ∧ hs.length = i ∧
        (∀ (j : Nat) (x y : Nd × Nat), hs[j]? = some x → gs[j]? = some y → x.1 = y.1) ∧ (∀ x ∈ hs, 1 ≤ x.2 ∧ x.2 ≤ 10 ^ 18) ∧ But p H H' ∧ Tups K H2 H' ∧ Pot H' p (c + 500 + 2 * i))
      ⟨none, none, [], [], rfl, f2, .nil, rfl, (fun j x y h => by simp at h), (fun x h => nomatch h), b02, .refl, p2⟩ (fun i σ H' _ hp' => ?_) (fun i u σ H3 hu hp' => ?_) (fun σ H' hp' => ?_)
    · obtain ⟨_, _, _, _, _, _, _, _, _, _, _, tp, _⟩ := hp'
      exact tp _ _ (.inl (.inl hrt))
    · obtain ⟨y3, y4, vs', hs, rfl, g1, g2, g3, g4, g5, g6, tp, p3⟩ := hp'
      obtain ⟨pr, ra, v, hpi, rfl, t1, t2⟩ := (PrsV.up tp kP).get hu
      have hil := (List.getElem?_eq_some_iff.mp hpi).1
      obtain ⟨⟨e0, ee, _⟩, c1, _⟩ := giv.1 pr (List.mem_of_getElem? hpi)
      have c2 : pr.2 ≤ 10 ^ 18 := Nat.le_trans (g200 pr (List.mem_of_getElem? hpi)) (by decide +kernel)
      refine ⟨ra, _, rfl, t1, rfl, v, _, rfl, _, [], rfl, rfl, ?_⟩
      refine ⟨.ref FF, rfl, .inl ⟨rfl, _, .inl (.inl g1)⟩, v, rfl, .ref p, rfl, _, rfl, _, rfl, 10, 18, rfl, rfl, ⟨by decide, by decide, by decide⟩, .ref p, rfl, 10, 18, rfl, rfl, ⟨by decide, by decide, by decide⟩, p, _, _, rfl, p3, by omega, (by decide), (by decide +kernel), fun d H4 d0 d1 b4 p4 => ⟨1, d, rfl, rfl,
        (show 7 ≤ sizeLine from by decide), fun l6 n6 => ⟨p, l6, _, _, rfl, p4.new n6, by omega, p4.ne n6, upd_same, List.cons_ne_nil _ _, (show 7 ≤ 1000 from by decide), fun j x H5 hj b5 p5 => ⟨(show 2 ≤ sizeLine from by decide), fun t7 n7 => ?_⟩⟩⟩⟩
      have d1' : d < (10 : Int) ^ 18 := d1
      obtain ⟨k, rfl, k1, k2⟩ : ∃ k : Nat, x = .int k ∧ 1 ≤ k ∧ k ≤ 10 ^ 18 := by
        have := List.mem_of_getElem? hj
        simp only [List.mem_cons, List.not_mem_nil, or_false] at this
        rcases this with rfl | rfl | rfl | rfl | rfl | rfl | rfl
        · exact ⟨pr.2, rfl, c1, c2⟩
        · exact ⟨pr.2, rfl, c1, c2⟩
        · exact ⟨1, rfl, by decide, by decide⟩
        · exact ⟨2, rfl, by decide, by decide⟩
        · exact ⟨10, rfl, by decide, by decide⟩
        · exact ⟨10 ^ 18, rfl, by decide, by decide⟩
        · exact ⟨1 + d.toNat, int_congr (by omega), by omega, by omega⟩
      have b35 := (b4.trans (.new n6)).trans b5
      have s7 := sameN (o := .tup [v, .int (k : Nat)]) n7
      have b37 := b35.trans (Same.but s7)
      have gF7 := b37.at nFp g1
      have tp7 : Tups K H3 (upd H5 t7 (.tup [v, .int (k : Nat)])) := b37.tupsP p3
      have t9 : Tups K (upd H5 t7 (.tup [v, .int (k : Nat)])) (upd (upd H5 t7 (.tup [v, .int (k : Nat)])) FF (.lst (vs' ++ [.ref t7]))) := (But.set (p := FF)).tups gF7
      have lv : vs'.length = hs.length := PrsV.len g2
      refine ⟨FF, _, _, rfl, rfl, gF7, line5 (by omega), _, _, vs' ++ [.ref t7], hs ++ [(pr.1, k)], rfl, upd_same, ?_, by rw [List.length_append, g3]; rfl, fun jj x y hx hy => ?_, fun x hx => ?_, (g6.trans b37).wr nF, (tp.trans tp7).trans t9, ?_⟩
      · exact (PrsV.up t9 (PrsV.up tp7 g2)).app (PrsV.one (p := (pr.1, k)) (t9 _ _ (.inl (.inl upd_same))) ((t2.up tp7).up t9))
      · by_cases c3 : jj < hs.length
        · rw [List.getElem?_append_left c3] at hx
          exact g4 jj x y hx hy
        · by_cases c4 : jj = hs.length
          · rw [List.getElem?_append_right (by omega), c4, Nat.sub_self] at hx
            have hx := Option.some.inj hx
            rw [c4, g3, hpi] at hy
            rw [← hx, ← Option.some.inj hy]
          · rw [List.getElem?_eq_none_iff.mpr (by simp; omega)] at hx
            cases hx
      · rcases List.mem_append.mp hx with hx | hx
        · exact g5 x hx
        · rw [List.mem_singleton.mp hx]
          exact ⟨k1, k2⟩
      · obtain ⟨o, ho, po⟩ := p5
        exact ⟨o, by rw [upd_ne nFp.symm]; exact s7 _ _ ho, po.le (by omega)⟩
    · obtain ⟨y3, y4, vs', hs, rfl, g1, g2, g3, g4, g5, g6, tp, p3⟩ := hp'
      have lw := PrsV.len kP
      rw [lw] at g3 p3
      refine ⟨.ref FF, rfl, FF, vs', rfl, .inl ⟨.inl (.inl g1), fun t nt => q _ t vs' hs (g6.trans (.new nt)) (g6.freeP p3 nt) upd_same (PrsV.up (.of (sameN nt)) g2) ⟨fun x hx => ?_, fun i x y hx hy => ?_⟩ (fun x hx => (g5 x hx).2) (by omega) ((p3.new nt).le (by omega))⟩⟩
      · obtain ⟨i, hi⟩ := List.getElem?_of_mem hx
        obtain ⟨y, hy⟩ := get_of (l := gs) (i := i) (by have := (List.getElem?_eq_some_iff.mp hi).1; omega)
        rw [g4 i x y hi hy]
        exact ⟨(giv.1 y (List.mem_of_getElem? hy)).1, (g5 x hx).1, Nat.le_trans (g5 x hx).2 (by decide +kernel)⟩
      · have i1 := (List.getElem?_eq_some_iff.mp hy).1
        obtain ⟨x', hx'⟩ := get_of (l := gs) (i := i) (by omega)
        obtain ⟨y', hy'⟩ := get_of (l := gs) (i := i + 1) (by omega)
        rw [g4 i x x' hx hx', g4 (i + 1) y y' hy hy']
        exact giv.2 i x' y' hx' hy'
end

end C62

set_option Elab.async false
set_option linter.all false
set_option maxRecDepth 100000
namespace C62
open PySem PySem.Spec PyProof.Rows L2 Loc RZ
/-! ### marks, peaks, cuts, blocks -/
def rd : Nat → List Nat → List Nat
  | 0, l => l
  | i + 1, l => M07.round (rd i l)
theorem rd_len : ∀ i l, (rd i l).length = l.length
  | 0, _ => rfl
  | i + 1, l => by rw [rd, M07.round_length, rd_len i l]
theorem rd_unl : ∀ i l, M07.Unl l → M07.Unl (rd i l)
  | 0, _, h => h
  | i + 1, l, h => M07.round_unl _ (rd_unl i l h)
def mrk (ns : List Nd) : List Nat := rd 4 (fms (ns.map cd))
theorem mrk_len (ns : List Nd) : (mrk ns).length = ns.length := by
  unfold mrk
  rw [rd_len, fms_length, List.length_map]
def tops (ns : List Nd) : List Nat := M10.pks (mrk ns)
/-- the piece of a row -/
def pce (ns : List Nd) (z : Nat × Nat) : List Nd := (ns.take z.2).drop z.1
def pieces (ns : List Nd) : List (Nat × Nat) := M10.pcs ns.length (tops ns)
theorem gap_row {ns : List Nd} (h : 2 ≤ ns.length) : M10.Gap ns.length 0 (tops ns) := by
  have := M10.pks_gap (ms := mrk ns) (by rw [mrk_len]; exact h)
  rw [mrk_len] at this
  exact this
theorem pieces_cont {ns : List Nd} (h : 2 ≤ ns.length) : M10.Cont 0 ns.length (pieces ns) := M10.sts_cont (gap_row h)
section
variable {P : Program} {w : World} {K : PySem.W.Frag} {mg : Str → Option Value} {base : Heap}
theorem scMarks : FnScope ["row", "some", "_"] ["row"] (defScope sMarks) := ⟨rfl, rfl, rfl, by decide +kernel, rfl, by decide +kernel, by decide +kernel⟩
theorem scPeaks : FnScope ["row", "some", "places", "place"] ["row"] (defScope sPeaks) := ⟨rfl, rfl, rfl, by decide +kernel, rfl, by decide +kernel, by decide +kernel⟩
theorem scCuts : FnScope ["row", "tops", "begins", "ends", "places", "begin", "end"] ["row"] (defScope sCuts) := ⟨rfl, rfl, rfl, by decide +kernel, rfl, by decide +kernel, by decide +kernel⟩
theorem scBlocks : FnScope ["row", "begins", "ends", "begin", "end"] ["row"] (defScope sBlocks) := ⟨rfl, rfl, rfl, by decide +kernel, rfl, by decide +kernel, by decide +kernel⟩
/-- a row of nodes -/
def RowV (K : PySem.W.Frag) (m : Nat) (H : Hp) (a : Addr) (ns : List Nd) : Prop := ∃ us l, SqT K H a us ∧ NdsV K H us ns ∧ OkAll ns l ∧ Unb ns ∧ wide l ≤ 5000000 ∧ (∀ n ∈ ns, ht n < m) ∧ 2 ≤ ns.length ∧ ns.length ≤ 100000
theorem RowV.same {m : Nat} {H H' : Hp} {a : Addr} {ns : List Nd} (h : RowV K m H a ns) (s : Same H H') : RowV K m H' a ns := by
  obtain ⟨us, l, h1, h2, h3⟩ := h
  exact ⟨us, l, sameT s h1, h2.up (.of s), h3⟩
theorem RowV.at {m : Nat} {H : Hp} {a : Addr} {ns : List Nd} (h : RowV K m H a ns) : ∃ us, SqT K H a us ∧ us.length = ns.length ∧ 2 ≤ ns.length ∧ ns.length ≤ 100000 := by
  obtain ⟨us, l, h1, h2, _, _, _, _, h3, h4⟩ := h
  exact ⟨us, h1, h2.len, h3, h4⟩
def spMarks (K : PySem.W.Frag) (m : Nat) : Sp := fun vs H Q _ => ∃ (a : Addr) (ns : List Nd), vs = [.ref a] ∧ RowV K m H a ns ∧ ∀ H' p, Same H H' → SqT K H' p (vN (mrk ns)) → Q (.ref p) H'
def spPeaks (K : PySem.W.Frag) (m : Nat) : Sp := fun vs H Q _ => ∃ (a : Addr) (ns : List Nd), vs = [.ref a] ∧ RowV K m H a ns ∧ ∀ H' p, Same H H' → SqT K H' p (vN (tops ns)) → Q (.ref p) H'
def spCuts (K : PySem.W.Frag) (m : Nat) : Sp := fun vs H Q _ => ∃ (a : Addr) (ns : List Nd), vs = [.ref a] ∧ RowV K m H a ns ∧ ∀ H' p, Same H H' → SqT K H' p (vN ((pieces ns).map (·.1))) → Q (.ref p) H'
def spBlocks (K : PySem.W.Frag) (m : Nat) : Sp := fun vs H Q _ => ∃ (a : Addr) (ns : List Nd), vs = [.ref a] ∧ RowV K m H a ns ∧
  ∀ H' p us, Same H H' → SqT K H' p us → NdsV K H' us ((pieces ns).map fun z => Nd.blk (pce ns z)) → Q (.ref p) H'
theorem ok_marks {f g h' : Addr} {fd gd hd : FuncData} {m : Nat} (F : Fun K "marks" "marks" sMarks f fd) (G : FnOk P w K mg base CX0 (m + 3) g gd ["row"] (spFirst K m)) (G' : Fun K "first_marks" "first_marks" sFirst g gd) (gG : mg "first_marks" = some (.ref g)) (bG : Binds K gd ["row"] [])
    (N : FnOk P w K mg base CX0 2 h' hd ["some"] (spNext K)) (N' : Fun K "next_marks" "next_marks" sNext h' hd) (gN : mg "next_marks" = some (.ref h')) (bN : Binds K hd ["some"] []) (mr : mg "range" = none) : FnOk P w K mg base CX0 (m + 4) f fd ["row"] (spMarks K m) := by
  refine F.ok scMarks (fun vs H Q E h => ?_) (fun cdv A outer s H vs Q E hr h => ?_)
  · obtain ⟨a, ns, rfl, _⟩ := h
    rfl
  · obtain ⟨a, ns, rfl, ⟨us, l, hT, hN, ok, un, hw, hh, h2, hl⟩, q⟩ := h
    have r2 := hr.mono (j := 2) (by omega)
    refine ⟨_, pss_cons (ps_set (i := 1) scMarks.nd rfl (.inl rfl) (pe_call G hr (by rfl) gG G'.kp bG .nil pass0 (pa_cons (pv 0) pa_nil)))
      (pss_cons (ps_for PassesOwn.never rfl (pi_range1 (by rfl) mr (pa_cons pe_int pa_nil)) (pg_name (i := 2) scMarks.nd rfl (.inl rfl))
        (pss_one (ps_set (i := 1) scMarks.nd rfl (.inl rfl) (pe_call N r2 (by rfl) gN N'.kp bN .nil pass0 (pa_cons (pv 1) pa_nil)))))
      (pss_one (ps_ret (pv 1)))), ?_⟩
    refine ⟨.ref a, rfl, a, us, ns, l, rfl, hT, hN, ok, hw, hh, hl, fun H1 p s1 hp => ?_⟩
    have u0 : M07.Unl (fms (ns.map cd)) := fms_unl _ (cds_sgs ns) (unlT_of ok un)
    refine ⟨4, rfl, by decide, by decide, ?_⟩
    refine for_range (fun i σ H' => ∃ p y2, σ = [some (.ref a), some (.ref p), y2] ∧ SqT K H' p (vN (rd i (fms (ns.map cd)))) ∧ Same H H') ⟨p, none, rfl, .inl (.inl hp), s1⟩ (fun i σ H2 hi hp => ?_) (fun σ H' hp => ?_)
    · obtain ⟨p, y2, rfl, hp, s2⟩ := hp
      refine ⟨.ref p, rfl, p, _, rfl, hp, rd_unl i _ u0, ?_, fun H3 p3 s3 h3 => ⟨p3, _, rfl, .inl (.inl h3), s2.trans s3⟩⟩
      rw [rd_len, fms_length, List.length_map]
      exact hl
    · obtain ⟨p, y2, rfl, hp, s2⟩ := hp
      exact ⟨_, rfl, q _ _ s2 hp⟩
theorem freeS {H H' : Hp} {a : Addr} (s : Same H H') (h : H' a = none) : H a = none := by
  cases z : H a with
  | none => rfl
  | some u =>
    rw [s _ _ z] at h
    cases h
theorem range'_more (s n : Nat) : List.range' s (n + 1) = List.range' s n ++ [s + n] := by
  rw [List.range'_concat]
  simp
theorem ok_peaks {f g : Addr} {fd gd : FuncData} {m : Nat} (F : Fun K "peaks" "peaks" sPeaks f fd) (G : FnOk P w K mg base CX0 (m + 4) g gd ["row"] (spMarks K m)) (G' : Fun K "marks" "marks" sMarks g gd) (gG : mg "marks" = some (.ref g)) (bG : Binds K gd ["row"] [])
    (mr : mg "range" = none) (ml : mg "len" = none) (mt : mg "tuple" = none) : FnOk P w K mg base CX0 (m + 5) f fd ["row"] (spPeaks K m) := by
  refine F.ok scPeaks (fun vs H Q E h => ?_) (fun cdv A outer s H vs Q E hr h => ?_)
  · obtain ⟨a, ns, rfl, _⟩ := h
    rfl
  · obtain ⟨a, ns, rfl, hR, q⟩ := h
    refine ⟨_, pss_cons (ps_set (i := 1) scPeaks.nd rfl (.inr rfl) (pe_call G hr (by rfl) gG G'.kp bG .nil pass0 (pa_cons (pv 0) pa_nil)))
      (pss_cons (ps_set (i := 2) scPeaks.nd rfl (.inl rfl) (pe_callTy cr_range2 (by rfl) mr (by decide +kernel) (pa_cons pe_int (pa_cons (pe_op op_sub (pe_callB call_len_seq (by rfl) ml PySem.boot_len (pa_cons (pv 0) pa_nil)) pe_int) pa_nil))))
      (pss_one (ps_ret (pe_callTy call_tuple_of (by rfl) mt PyProof.Rows.boot_tuple (pa_cons (pe_lc (own := [("place", 3)]) (g := gName 3)
        (tt := tTest (tChain (rI0 fun i j => .bl (decide (i < j))) (rI0 fun i j => .bl (decide (j < i))) (tOp (rIxT K) (tVar 1) (tOp (rI0 fun i j => .int (i - j)) (tVar 3) (tC (.int 1)))) (tOp (rIxT K) (tVar 1) (tVar 3)) (tOp (rIxT K) (tVar 1) (tOp (rI0 fun i j => .int (i + j)) (tVar 3) (tC (.int 1))))))
        rfl scPeaks.nd (pi_rngV (pv 2)) (blkOk_by (N := ["row", "some", "places", "place"]) (sc := defScope sPeaks) (by decide +kernel))
        (fun _ _ _ _ _ => pg_name (i := 3) scPeaks.nd rfl (Or.inl rfl))
        (fun _ _ _ _ _ => pts_one (pt_chain op_lt op_gt (pe_ix ix_tup (pv 1) (pe_op op_sub (pv 3) pe_int) (fun _ _ => rfl)) (pe_ix ix_tup (pv 1) (pv 3) (fun _ _ => rfl)) (pe_ix ix_tup (pv 1) (pe_op op_add (pv 3) pe_int) (fun _ _ => rfl))))
        (fun _ _ _ _ _ => pv 3)) pa_nil))))), ?_⟩
    refine ⟨.ref a, rfl, a, ns, rfl, hR, fun H1 p s1 hp => ?_⟩
    obtain ⟨us, hT, hlu, h2, hl⟩ := (hR.same s1).at
    refine ⟨.ref a, rfl, a, us, rfl, .inr hT, _, _, rfl, rfl, 2, _, rfl, fun r nr => ?_⟩
    have lm := mrk_len ns
    have sR := sameN (o := .rng 2 (((us.length : Nat) : Int) - 1)) nr
    refine ⟨.ref r, rfl, r, 2, _, rfl, upd_same, ⟨by decide, by decide, by omega, by omega⟩, fun D nD => ?_⟩
    have n0 : ((((us.length : Nat) : Int) - 1) - 2).toNat = ns.length - 3 := by omega
    refine lc_range (fun i H' => H' D = some (.lst (vN ((List.range' 2 i).filter (M10.pk (mrk ns))))) ∧ Same H1 H') ⟨upd_same, sR.trans (sameN nD)⟩ (fun i H' hi hp' => ?_) (fun H' hp' => ?_)
    · obtain ⟨gD, sD⟩ := hp'
      rw [n0] at hi
      have pM := sameT sD hp
      obtain ⟨x, hx⟩ := get_of (l := mrk ns) (i := i + 1) (by omega)
      obtain ⟨y, hy⟩ := get_of (l := mrk ns) (i := i + 2) (by omega)
      obtain ⟨z, hz⟩ := get_of (l := mrk ns) (i := i + 3) (by omega)
      have ek : M10.pk (mrk ns) (2 + i) = (decide (x < y) && decide (z < y)) := by
        unfold M10.pk
        rw [show 2 + i - 1 = i + 1 by omega, show 2 + i = i + 2 by omega, hx, hy, show i + 2 + 1 = i + 3 by omega, hz]
      refine ⟨rfl, ?_⟩
      refine ⟨.ref p, rfl, _, rfl, _, 1, rfl, rfl, p, _, ((i + 1 : Nat) : Int), .int x, rfl, int_congr (by omega), pM, atI_nat (vN_get hx), .ref p, rfl, _, rfl, p, _, ((i + 2 : Nat) : Int), .int y, rfl, int_congr (by omega), pM, atI_nat (vN_get hy), x, y, rfl, rfl, _, rfl, ?_⟩
      have keep : (decide (x < y) && decide (z < y)) = false → H' D = some (.lst (vN ((List.range' 2 (i + 1)).filter (M10.pk (mrk ns))))) ∧ Same H1 H' := fun e => by
        rw [range'_more, List.filter_append, List.filter_cons_of_neg (by rw [ek, e]; simp), List.filter_nil, List.append_nil]
        exact ⟨gD, sD⟩
      refine ite2 (fun e => ?_) (fun e => ?_)
      · have e1 : x < y := by
          have := of_decide_eq_true e
          omega
        refine ⟨.ref p, rfl, _, rfl, _, 1, rfl, rfl, p, _, ((i + 3 : Nat) : Int), .int z, rfl, int_congr (by omega), pM, atI_nat (vN_get hz), y, z, rfl, rfl, _, rfl, ite2 (fun e2 => ?_) (fun e2 => ?_)⟩
        · have e3 : z < y := by
            have := of_decide_eq_true e2
            omega
          refine ⟨_, rfl, _, gD, ?_, ?_, sameW sD (freeS sR nD)⟩
          · rw [vN_len]
            refine line5 (Nat.le_trans (List.length_filter_le _ _) ?_)
            rw [List.length_range']
            omega
          · rw [upd_same, range'_more, List.filter_append, List.filter_cons_of_pos (by rw [ek, decide_eq_true e1, decide_eq_true e3]; rfl), List.filter_nil, vN_app]
            exact congrArg (fun z => some (HO.lst (_ ++ [z]))) (int_congr (by omega))
        · refine keep ?_
          have e3 : ¬ z < y := fun c => e2 (decide_eq_true (by omega))
          rw [decide_eq_false e3, Bool.and_false]
      · refine ⟨_, rfl, iteF (keep ?_)⟩
        have e3 : ¬ x < y := fun c => e (decide_eq_true (by omega))
        rw [decide_eq_false e3, Bool.false_and]
    · obtain ⟨gD, sD⟩ := hp'
      rw [n0] at gD
      refine ⟨D, _, rfl, .inl ⟨.inl (.inl gD), fun t nt => q _ t (s1.trans (sD.trans (sameN nt))) (.inl (.inl ?_))⟩⟩
      rw [upd_same]
      unfold tops M10.pks
      rw [lm]
theorem ndsV_drop {H : Hp} : ∀ {ps : List Nd} {vs : List V} (k : Nat), NdsV K H vs ps → NdsV K H (vs.drop k) (ps.drop k)
  | _, _, 0, h => h
  | [], vs, k + 1, h => by
    have := h.inv0
    subst this
    exact h
  | p :: ps, vs, k + 1, h => by
    obtain ⟨v, r, rfl, _, h2⟩ := h.inv
    exact ndsV_drop k h2
theorem slice_any {H : Hp} {a : Addr} {xs : List V} {b e : Nat} {Q : VK} (h : SqT K H a xs) (h1 : b ≤ e) (h2 : e ≤ xs.length) (q : ∀ H' t, Same H H' → SqT K H' t ((xs.take e).drop b) → Q (.ref t) H') : rSlA K (.ref a) (some (b : Int)) (some (e : Int)) H Q := by
  refine ⟨a, xs, rfl, h, fun hw => ?_, fun hw p hp => q _ p (sameN hp) (.inl (.inl ?_))⟩
  · rw [HT.sIx_nat, HT.sIx_nat] at hw
    have e1 : b = 0 := by omega
    have e2 : e = xs.length := by omega
    subst e1 e2
    refine q H a (Same.refl H) ?_
    rw [List.take_length]
    exact h
  · rw [upd_same]
    unfold cutV
    rw [HT.sIx_nat, HT.sIx_nat, Nat.min_eq_left h2, Nat.min_eq_left (Nat.le_trans h1 h2), List.drop_take]
theorem cat_any {H : Hp} {a b : Addr} {xs ys : List V} {Q : VK} (h : SqT K H a xs) (k : SqT K H b ys) (len : xs.length + ys.length ≤ sizeLine) (q : ∀ H' t, Same H H' → SqT K H' t (xs ++ ys) → Q (.ref t) H') : rCatA K (.ref a) (.ref b) H Q := by
  refine ⟨a, b, xs, ys, rfl, rfl, h, k, len, fun e => q H b (Same.refl H) (by rw [e]; exact k), fun _ e => q H a (Same.refl H) (by rw [e, List.append_nil]; exact h), fun _ _ p hp => q _ p (sameN hp) (.inl (.inl upd_same))⟩
theorem pieces_fst_len {ns : List Nd} (h : 2 ≤ ns.length) : (pieces ns).length ≤ ns.length := by
  have := (pieces_cont h).len
  omega
theorem ok_cuts {f g : Addr} {fd gd : FuncData} {m : Nat} (F : Fun K "cuts" "cuts" sCuts f fd) (G : FnOk P w K mg base CX0 (m + 5) g gd ["row"] (spPeaks K m)) (G' : Fun K "peaks" "peaks" sPeaks g gd) (gG : mg "peaks" = some (.ref g)) (bG : Binds K gd ["row"] [])
    (mr : mg "range" = none) (ml : mg "len" = none) (mt : mg "tuple" = none) (mz : mg "zip" = none) (mlist : mg "list" = none) : FnOk P w K mg base CX0 (m + 6) f fd ["row"] (spCuts K m) := by
  refine F.ok scCuts (fun vs H Q E h => ?_) (fun cdv A outer s H vs Q E hr h => ?_)
  · obtain ⟨a, ns, rfl, _⟩ := h
    rfl
  · obtain ⟨a, ns, rfl, hR, q⟩ := h
    refine ⟨_, pss_cons (ps_set (i := 1) scCuts.nd rfl (.inl rfl) (pe_call G hr (by rfl) gG G'.kp bG .nil pass0 (pa_cons (pv 0) pa_nil)))
      (pss_cons (ps_set (i := 2) scCuts.nd rfl (.inl rfl) (pe_op op_catA (pe_tup (pa_cons pe_int pa_nil)) (pv 1)))
      (pss_cons (ps_set (i := 3) scCuts.nd rfl (.inl rfl) (pe_op op_catA (pv 1) (pe_tup (pa_cons (pe_callB call_len_seq (by rfl) ml PySem.boot_len (pa_cons (pv 0) pa_nil)) pa_nil))))
      (pss_cons (ps_set (i := 4) scCuts.nd rfl (.inl rfl) (pe_lst pa_nil))
      (pss_cons (ps_for PassesOwn.never rfl (pi_zipA (by rfl) mz (pa_cons (pv 2) (pa_cons (pv 3) pa_nil))) (pg_tup rfl (pgs_cons (pg_name (i := 5) scCuts.nd rfl (.inl rfl)) (pgs_cons (pg_name (i := 6) scCuts.nd rfl (.inl rfl)) pgs_nil)))
        (pss_one (ps_expr (pe_bm PySem.F.plainAttrs_list PySem.F.slot_list_extend PySem.F.type_list_extend mt_extend (pv 4)
          (pa_cons (pe_listRg3 (by rfl) (by rfl) mlist (by rfl) mr (pa_cons (pv 5) (pa_cons (pe_op op_sub (pv 6) pe_int) (pa_cons pe_int pa_nil)))) pa_nil)))))
      (pss_one (ps_ret (pe_callTy call_tuple_of (by rfl) mt PyProof.Rows.boot_tuple (pa_cons (pv 4) pa_nil)))))))), ?_⟩
    refine ⟨.ref a, rfl, a, ns, rfl, hR, fun H1 p s1 hp => ?_⟩
    obtain ⟨us, hT, hlu, h2, hl⟩ := (hR.same s1).at
    have gap := gap_row h2
    have con := pieces_cont h2
    have lp := pieces_fst_len h2
    unfold pieces M10.pcs at con lp
    have tl : (tops ns).length ≤ ns.length := by
      unfold tops M10.pks
      refine Nat.le_trans (List.length_filter_le _ _) ?_
      rw [List.length_range', mrk_len]
      omega
    refine ⟨(show 1 ≤ sizeLine from by decide), fun t0 n0 => ⟨.ref p, rfl, cat_any (.inl (.inl upd_same)) (sameT (sameN n0) hp) (Nat.le_trans (show 1 + (vN (tops ns)).length ≤ 100001 by rw [vN_len]; omega) (by decide)) fun H2 b s2 hb => ?_⟩⟩
    have s12 := (sameN (o := .tup [.int 0]) n0).trans s2
    refine ⟨.ref p, rfl, .ref a, rfl, a, us, rfl, .inr (sameT s12 hT), (show 1 ≤ sizeLine from by decide), fun t3 n3 => cat_any (sameT (s12.trans (sameN n3)) hp) (.inl (.inl upd_same)) (Nat.le_trans (show (vN (tops ns)).length + 1 ≤ 100001 by rw [vN_len]; omega) (by decide)) fun H3 e s3 he => ?_⟩
    have s23 := (sameN (o := .tup [.int ((us.length : Nat) : Int)]) n3).trans s3
    have hb3 : SqT K H3 b (vN (0 :: tops ns)) := sameT s23 hb
    have he3 : SqT K H3 e (vN (tops ns ++ [ns.length])) := by
      rw [vN_app, ← hlu]
      exact he
    have s13 := s12.trans s23
    rw [← M10.sts_fst ns.length 0 (tops ns)] at hb3
    rw [← M10.sts_snd ns.length 0 (tops ns)] at he3
    refine ⟨(show 0 ≤ sizeLine from by decide), fun L nL => ?_⟩
    have sL := sameN (o := .lst []) nL
    refine ⟨.ref b, rfl, .ref e, rfl, b, e, _, _, rfl, .inr ⟨sameT sL hb3, sameT sL he3, ?_⟩⟩
    generalize hst : M10.sts ns.length 0 (tops ns) = st at hb3 he3 con lp
    refine for_zipT (xs := vN (st.map (·.1))) (ys := vN (st.map (·.2))) (by simp) (fun i σ H' => ∃ y5 y6, σ = [some (.ref a), some (.ref p), some (.ref b), some (.ref e), some (.ref L), y5, y6] ∧ H' L = some (.lst (vN (((st.take i).flatMap M10.stz).map (·.1)))) ∧ Same H3 H')
      ⟨none, none, rfl, upd_same, sL⟩ (fun i σ H' hp' => ?_) (fun i x y T σ H' hx hy hp' nT => ?_) (fun σ H' hp' => ?_)
    · obtain ⟨_, _, _, _, s4⟩ := hp'
      exact ⟨sameT s4 hb3, sameT s4 he3⟩
    · obtain ⟨y5, y6, rfl, gL, s4⟩ := hp'
      obtain ⟨z, hz, rfl⟩ : ∃ z, st[i]? = some z ∧ x = .int (z.1 : Nat) := by
        rw [List.getElem?_map, List.getElem?_map, Option.map_map] at hx
        obtain ⟨z, hz, rfl⟩ := Option.map_eq_some_iff.mp hx
        exact ⟨z, hz, rfl⟩
      have ey : y = .int (z.2 : Nat) := by
        rw [List.getElem?_map, List.getElem?_map, hz] at hy
        exact (Option.some.inj hy).symm
      subst ey
      have hzb := M10.sts_gap gap z (by rw [hst]; exact List.mem_of_getElem? hz)
      obtain ⟨d, hd⟩ : ∃ d, z.2 = z.1 + d := ⟨z.2 - z.1, by omega⟩
      have d2 : 2 ≤ d := by omega
      have gT := sameN (o := .tup [V.int (z.1 : Nat), .int (z.2 : Nat)]) nT
      refine ⟨T, [.int (z.1 : Nat), .int (z.2 : Nat)], rfl, .inl (.inl upd_same), rfl, _, [.int (z.2 : Nat)], rfl, _, [], rfl, rfl, ?_⟩
      refine ⟨.ref L, rfl, .inl ⟨rfl, _, .inl (.inl (gT _ _ gL))⟩, _, rfl, _, rfl, _, 1, rfl, rfl, (z.1 : Nat), _, 2, d / 2, rfl, by rw [hd]; exact rgC_two d2 (by omega), by omega, fun l5 n5 => ?_⟩
      have tk : st.take (i + 1) = st.take i ++ [z] := take_more hz
      have ev : ((List.range (d / 2)).map fun k => V.int (((z.1 : Nat) : Int) + (k : Nat) * 2)) = vN ((M10.stz z).map (·.1)) := by
        unfold M10.stz
        rw [hd, Nat.add_sub_cancel_left, M10.str_fst d z.1 d2]
        show _ = List.map (fun n : Nat => V.int (n : Int)) (List.map (fun k => z.1 + k * 2) (List.range (d / 2)))
        rw [List.map_map]
        refine List.map_congr_left fun k _ => int_congr ?_
        show (z.1 : Int) + (k : Nat) * 2 = ((z.1 + k * 2 : Nat) : Int)
        omega
      have lall : (((st.take i).flatMap M10.stz).map (·.1)).length + ((M10.stz z).map (·.1)).length ≤ ns.length := by
        have e1 : (st.take (i + 1)).flatMap M10.stz ++ (st.drop (i + 1)).flatMap M10.stz = st.flatMap M10.stz := by rw [← List.flatMap_append, List.take_append_drop]
        have e2 := congrArg List.length e1
        rw [List.length_append, tk, List.flatMap_append, List.length_append] at e2
        have e3 : ([z].flatMap M10.stz) = M10.stz z := by simp
        rw [e3] at e2
        rw [List.length_map, List.length_map]
        omega
      refine ⟨L, l5, _, _, rfl, rfl, sameN n5 _ _ (gT _ _ gL), upd_same, ?_, _, _, rfl, ?_, sameW ((s4.trans gT).trans (sameN n5)) nL⟩
      · rw [ev, vN_len, vN_len]
        exact Nat.le_trans lall (Nat.le_of_lt (line5 hl))
      · rw [upd_same, ev, tk, List.flatMap_append, List.map_append]
        unfold vN
        rw [List.map_append]
        simp
    · obtain ⟨y5, y6, rfl, gL, s4⟩ := hp'
      have full : st.take (vN (st.map (·.1))).length = st := List.take_of_length_le (by simp)
      rw [full] at gL
      refine ⟨.ref L, rfl, L, _, rfl, .inl ⟨.inl (.inl gL), fun t nt => q _ t (((s1.trans s13).trans s4).trans (sameN nt)) (.inl (.inl ?_))⟩⟩
      rw [upd_same]
      unfold pieces M10.pcs
      rw [hst]
theorem ok_blocks {f g : Addr} {fd gd : FuncData} {m : Nat} (F : Fun K "blocks" "blocks" sBlocks f fd) (G : FnOk P w K mg base CX0 (m + 6) g gd ["row"] (spCuts K m)) (G' : Fun K "cuts" "cuts" sCuts g gd) (gG : mg "cuts" = some (.ref g)) (bG : Binds K gd ["row"] [])
    (ml : mg "len" = none) (mt : mg "tuple" = none) (mz : mg "zip" = none) : FnOk P w K mg base CX0 (m + 7) f fd ["row"] (spBlocks K m) := by
  refine F.ok scBlocks (fun vs H Q E h => ?_) (fun cdv A outer s H vs Q E hr h => ?_)
  · obtain ⟨a, ns, rfl, _⟩ := h
    rfl
  · obtain ⟨a, ns, rfl, hR, q⟩ := h
    refine ⟨_, pss_cons (ps_set (i := 1) scBlocks.nd rfl (.inl rfl) (pe_call G hr (by rfl) gG G'.kp bG .nil pass0 (pa_cons (pv 0) pa_nil)))
      (pss_cons (ps_set (i := 2) scBlocks.nd rfl (.inl rfl) (pe_op op_catA (pe_slice sl_tupA (pv 1) (po_some pe_int) po_none) (pe_tup (pa_cons (pe_callB call_len_seq (by rfl) ml PySem.boot_len (pa_cons (pv 0) pa_nil)) pa_nil))))
      (pss_one (ps_ret (pe_callTy call_tuple_of (by rfl) mt PyProof.Rows.boot_tuple (pa_cons (pe_lc (own := [("begin", 3), ("end", 4)]) (g := gTup K 2 (gCons (gName 3) (gCons (gName 4) gNil))) (tt := tYes)
        (te := tTup (tCons (tC (.str "block")) (tCons (tSl (rSlA K) (tVar 0) (tPart (tVar 3)) (tPart (tVar 4))) tNil)))
        rfl scBlocks.nd (pi_zipA (by rfl) mz (pa_cons (pv 1) (pa_cons (pv 2) pa_nil))) (blkOk_by (N := ["row", "begins", "ends", "begin", "end"]) (sc := defScope sBlocks) (by decide +kernel))
        (fun _ _ _ _ _ => pg_tup rfl (pgs_cons (pg_name (i := 3) scBlocks.nd rfl (Or.inl rfl) (hf := Or.inr rfl)) (pgs_cons (pg_name (i := 4) scBlocks.nd rfl (Or.inl rfl) (hf := Or.inr rfl)) pgs_nil))) (fun _ _ _ _ _ => pts_nil)
        (fun _ _ _ _ _ => pe_tup (pa_cons pe_str (pa_cons (pe_slice sl_tupA (pv 0) (po_some (pv 3)) (po_some (pv 4))) pa_nil)))) pa_nil))))), ?_⟩
    refine ⟨.ref a, rfl, a, ns, rfl, hR, fun H1 b s1 hb => ?_⟩
    obtain ⟨us, l0, hT, hN, _, _, _, _, h2, hl⟩ := hR.same s1
    have hlu := hN.len
    have con := pieces_cont h2
    have lp := pieces_fst_len h2
    have bnd := con.bnd.2
    generalize pieces ns = pz at hb con lp bnd q ⊢
    obtain ⟨z0, r0, rfl⟩ : ∃ z r, pz = z :: r := by
      cases pz with
      | nil =>
        have : 0 = ns.length := con
        omega
      | cons z r => exact ⟨z, r, rfl⟩
    have ee := con.ends
    refine ⟨.ref b, rfl, 1, rfl, b, _, rfl, hb, fun hw => ?_, fun hw t nt => ?_⟩
    · exfalso
      have := hw.1
      rw [show (1 : Int) = ((1 : Nat) : Int) from rfl, HT.sIx_nat, vN_len, List.length_map, List.length_cons] at this
      omega
    have st := sameN (o := .tup (cutV (vN ((z0 :: r0).map (·.1))) (some 1) none)) nt
    have ht : SqT K (upd H1 t (.tup (cutV (vN ((z0 :: r0).map (·.1))) (some 1) none))) t (vN (r0.map (·.1))) := by
      refine .inl (.inl ?_)
      rw [upd_same]
      refine congrArg (fun z => some (HO.tup z)) ?_
      unfold cutV
      rw [show (1 : Int) = ((1 : Nat) : Int) from rfl, HT.sIx_nat, HT.sIx_none, vN_len, List.length_map, List.length_cons, Nat.min_eq_left (by omega)]
      refine List.take_of_length_le ?_
      simp
    generalize upd H1 t (.tup (cutV (vN ((z0 :: r0).map (·.1))) (some 1) none)) = H2 at st ht ⊢
    refine ⟨.ref a, rfl, a, us, rfl, .inr (sameT st hT), (show 1 ≤ sizeLine from by decide), fun t3 n3 => cat_any (sameT (sameN n3) ht) (.inl (.inl upd_same)) (Nat.le_trans (show (vN (r0.map (·.1))).length + 1 ≤ 100001 by rw [vN_len, List.length_map]; rw [List.length_cons] at lp; omega) (by decide)) fun H3 e s3 he => ?_⟩
    have s13 := (st.trans (sameN (o := .tup [.int ((us.length : Nat) : Int)]) n3)).trans s3
    have he : SqT K H3 e (vN ((z0 :: r0).map (·.2))) := by
      rw [← ee, vN_app, ← hlu]
      exact he
    have hb := sameT s13 hb
    have hT := sameT s13 hT
    have hN := hN.up (.of (K := K) s13)
    generalize z0 :: r0 = pz at he hb lp bnd q ⊢
    refine ⟨.ref b, rfl, .ref e, rfl, b, e, _, _, rfl, .inr ⟨hb, he, fun D nD => ?_⟩⟩
    refine lc_zipT (xs := vN (pz.map (·.1))) (ys := vN (pz.map (·.2))) (fun i H' => i ≤ pz.length ∧ ∃ ws, H' D = some (.lst ws) ∧ NdsV K H' ws ((pz.take i).map fun z => Nd.blk (pce ns z)) ∧ Same H3 H') ⟨Nat.zero_le _, [], upd_same, .nil, sameN nD⟩ (fun i H' hp' => ?_) (fun i x y T H' hx hy hp' nT => ?_) (fun i H' hp' hi => ?_)
    · obtain ⟨_, _, _, _, s4⟩ := hp'
      exact ⟨sameT s4 hb, sameT s4 he⟩
    · obtain ⟨hi, ws, gD, dD, s4⟩ := hp'
      obtain ⟨z, hz, rfl⟩ : ∃ z, pz[i]? = some z ∧ x = .int (z.1 : Nat) := by
        rw [List.getElem?_map, List.getElem?_map, Option.map_map] at hx
        obtain ⟨z, hz, rfl⟩ := Option.map_eq_some_iff.mp hx
        exact ⟨z, hz, rfl⟩
      have ey : y = .int (z.2 : Nat) := by
        rw [List.getElem?_map, List.getElem?_map, hz] at hy
        exact (Option.some.inj hy).symm
      subst ey
      have hzb := bnd z (List.mem_of_getElem? hz)
      have tk : pz.take (i + 1) = pz.take i ++ [z] := take_more hz
      have sT := sameN (o := .tup [V.int (z.1 : Nat), .int (z.2 : Nat)]) nT
      have hil := (List.getElem?_eq_some_iff.mp hz).1
      refine ⟨T, [.int (z.1 : Nat), .int (z.2 : Nat)], rfl, .inl (.inl upd_same), rfl, _, [.int (z.2 : Nat)], rfl, _, [], rfl, rfl, rfl, ?_⟩
      refine ⟨.ref a, rfl, _, rfl, _, rfl, _, rfl, _, rfl, slice_any (sameT (s4.trans sT) hT) (by omega) (by omega) fun H5 t5 s5 h5 => ⟨(show 2 ≤ sizeLine from by decide), fun t6 n6 => ?_⟩⟩
      have s6 := sameN (o := .tup [.str "block", .ref t5]) n6
      have s56 := sT.trans (s5.trans s6)
      have nb : NdV K (upd H5 t6 (.tup [.str "block", .ref t5])) (.ref t6) (.blk (pce ns z)) := .ofBlk (.inl (.inl upd_same)) (sameT s6 h5) (ndsV_drop z.1 ((hN.up (.of (K := K) (s4.trans s56))).take z.2))
      have gD6 := s56 _ _ gD
      have dD6 := dD.up (.of (K := K) s56)
      refine ⟨ws, gD6, ?_, hil, ws ++ [.ref t6], upd_same, ?_, sameW (s4.trans s56) nD⟩
      · rw [dD.len, List.length_map]
        exact line5 (small_take (by omega))
      · rw [tk, List.map_append]
        have t9 : Tups K (upd H5 t6 (.tup [.str "block", .ref t5])) (upd (upd H5 t6 (.tup [.str "block", .ref t5])) D (.lst (ws ++ [.ref t6]))) := (But.set (p := D)).tups gD6
        exact (dD6.up t9).app (.one (nb.up t9))
    · obtain ⟨hil, ws, gD, dD, s4⟩ := hp'
      have full : pz.take i = pz := List.take_of_length_le (by
        rw [vN_len, vN_len, List.length_map, List.length_map] at hi
        omega)
      rw [full] at dD
      exact ⟨D, ws, rfl, .inl ⟨.inl (.inl gD), fun t nt => q _ t ws (((s1.trans s13).trans s4).trans (sameN nt)) (.inl (.inl upd_same)) (dD.up (.of (sameN nt)))⟩⟩
end
theorem unb_tail : ∀ {ns : List Nd} {a : Nd}, Unb (a :: ns) → Unb ns
  | [], _, _ => trivial
  | b :: r, a, h => h.2
theorem unb_drop : ∀ (k : Nat) {ns : List Nd}, Unb ns → Unb (ns.drop k)
  | 0, _, h => h
  | k + 1, [], h => h
  | k + 1, a :: r, h => unb_drop k (unb_tail h)
theorem unb_take : ∀ (k : Nat) {ns : List Nd}, Unb ns → Unb (ns.take k)
  | 0, _, _ => trivial
  | k + 1, [], h => h
  | 1, a :: r, h => trivial
  | k + 2, [a], h => trivial
  | k + 2, a :: b :: r, h => ⟨h.1, unb_take (k + 1) (ns := b :: r) h.2⟩
theorem ok_piece {ns : List Nd} {l : Nat} {z : Nat × Nat} (ok : OkAll ns l) (un : Unb ns) (h1 : z.1 + 2 ≤ z.2) (h2 : z.2 ≤ z.1 + 3) (h3 : z.2 ≤ ns.length) : Ok (.blk (pce ns z)) (l + 1) := by
  have len : (pce ns z).length = z.2 - z.1 := by
    unfold pce
    rw [List.length_drop, List.length_take]
    omega
  unfold Ok
  refine ⟨by omega, by omega, by omega, OkAll.of fun n hn => ok.mem n ?_, ?_⟩
  · unfold pce at hn
    exact List.mem_of_mem_take (List.mem_of_mem_drop hn)
  · exact unb_drop z.1 (unb_take z.2 un)
theorem ok_pieces {ns : List Nd} {l : Nat} (ok : OkAll ns l) (un : Unb ns) (h : 2 ≤ ns.length) : OkAll ((pieces ns).map fun z => Nd.blk (pce ns z)) (l + 1) := OkAll.of fun n hn => by
  obtain ⟨z, hz, rfl⟩ := List.mem_map.mp hn
  have := (pieces_cont h).bnd.2 z hz
  exact ok_piece ok un this.1 this.2.1 this.2.2
/-! ### rows -/
section
theorem wideL : ∀ l : Nat, l ≤ 9 → wide l ≤ 5000000
  | 0, _ => by decide
  | 1, _ => by decide
  | 2, _ => by decide
  | 3, _ => by decide
  | 4, _ => by decide
  | 5, _ => by decide
  | 6, _ => by decide
  | 7, _ => by decide
  | 8, _ => by decide
  | 9, _ => by decide
  | l + 10, h => by omega
def bks (ns : List Nd) : List Nd := (pieces ns).map fun z => Nd.blk (pce ns z)
noncomputable def Nx (ns : List Nd) : List Nd := mkRuns (bks ns)
noncomputable def nx : Nat → List Nd → List Nd
  | 0, r => r
  | i + 1, r => Nx (nx i r)
theorem base_mkRun {p : Nd × Nat} (h : p.1.isRun = false) : (mkRun p).base = p.1 := by
  unfold mkRun
  split
  · exact base_of_no h
  · rfl
theorem unb_of : ∀ {ns : List Nd}, (∀ (i : Nat) (x y : Nd), ns[i]? = some x → ns[i + 1]? = some y → x.base ≠ y.base) → Unb ns
  | [], _ => trivial
  | [_], _ => trivial
  | a :: b :: r, h => ⟨h 0 a b rfl rfl, unb_of (ns := b :: r) fun i x y h1 h2 => h (i + 1) x y h1 h2⟩
theorem unb_runs {gs : List (Nd × Nat)} (nr : ∀ p ∈ gs, p.1.isRun = false) (u : ∀ (i : Nat) p q, gs[i]? = some p → gs[i + 1]? = some q → p.1 ≠ q.1) : Unb (gs.map mkRun) := unb_of fun i x y hx hy => by
  rw [List.getElem?_map] at hx hy
  obtain ⟨p, hp, rfl⟩ := Option.map_eq_some_iff.mp hx
  obtain ⟨q, hq, rfl⟩ := Option.map_eq_some_iff.mp hy
  rw [base_mkRun (nr p (List.mem_of_getElem? hp)), base_mkRun (nr q (List.mem_of_getElem? hq))]
  exact u i p q hp hq
theorem grp_ne {ns : List Nd} (h : ns ≠ []) : grp ns ≠ [] := by
  rcases List.eq_nil_or_concat ns with rfl | ⟨r, n, rfl⟩
  · exact absurd rfl h
  · rw [List.concat_eq_append, grp_app]
    obtain ⟨i, c, e⟩ := stepG_last (grp r) n
    rw [e]
    simp
theorem Nx_ok {ns : List Nd} {l : Nat} (ok : OkAll ns l) (un : Unb ns) (h : 2 ≤ ns.length) (hl : ns.length ≤ 10000) : OkAll (Nx ns) (l + 1) ∧ Unb (Nx ns) ∧ 1 ≤ (Nx ns).length ∧ 2 * (Nx ns).length ≤ ns.length := by
  have okb : OkAll (bks ns) (l + 1) := ok_pieces ok un h
  have nr : ∀ n ∈ bks ns, n.isRun = false := fun n hn => by
    obtain ⟨z, _, rfl⟩ := List.mem_map.mp hn
    rfl
  have lc := (pieces_cont h).len
  have lb : (bks ns).length = (pieces ns).length := List.length_map _
  have lg := grp_len (bks ns)
  have nb : bks ns ≠ [] := fun z => by
    have e : (pieces ns).length = 0 := by rw [← lb, z]; rfl
    have c := pieces_cont h
    rw [List.eq_nil_of_length_eq_zero e] at c
    have c : 0 = ns.length := c
    omega
  have ng := grp_ne nb
  refine ⟨mkRuns_ok okb nr (Nat.le_trans (show (bks ns).length ≤ 10000 by omega) (by decide)), ?_, ?_, ?_⟩
  · exact unb_runs (fun p hp => nr _ (grp_foot _ p hp).1) (grp_unl _ _ rfl)
  · unfold Nx mkRuns
    rw [List.length_map]
    exact List.length_pos_iff.mpr ng
  · unfold Nx mkRuns
    rw [List.length_map]
    omega
/-- a row of level l0 + j -/
def Lv (l0 : Nat) (r0 : List Nd) (j : Nat) : Prop := OkAll (nx j r0) (l0 + j) ∧ Unb (nx j r0) ∧ 1 ≤ (nx j r0).length ∧ (nx j r0).length * 2 ^ (l0 + j) ≤ 1440
theorem Lv.small {l0 : Nat} {r0 : List Nd} {j : Nat} (h : Lv l0 r0 j) : l0 + j ≤ 10 ∧ (nx j r0).length ≤ 1440 := by
  obtain ⟨_, _, h3, h4⟩ := h
  have p : 1 ≤ 2 ^ (l0 + j) := Nat.one_le_two_pow
  constructor
  · rcases Nat.lt_or_ge 10 (l0 + j) with z | z
    · have e : 2 ^ 11 ≤ 2 ^ (l0 + j) := Nat.pow_le_pow_right (by decide) z
      have : 1 * 2 ^ (l0 + j) ≤ (nx j r0).length * 2 ^ (l0 + j) := Nat.mul_le_mul_right _ h3
      omega
    · exact z
  · have : (nx j r0).length * 1 ≤ (nx j r0).length * 2 ^ (l0 + j) := Nat.mul_le_mul_left _ p
    omega
theorem Lv.two {l0 : Nat} {r0 : List Nd} {j : Nat} (h : Lv l0 r0 j) (k : 2 ≤ (nx j r0).length) : l0 + j ≤ 9 := by
  obtain ⟨_, _, _, h4⟩ := h
  rcases Nat.lt_or_ge 9 (l0 + j) with z | z
  · have e : 2 ^ 10 ≤ 2 ^ (l0 + j) := Nat.pow_le_pow_right (by decide) z
    have : 2 * 2 ^ (l0 + j) ≤ (nx j r0).length * 2 ^ (l0 + j) := Nat.mul_le_mul_right _ k
    omega
  · exact z
theorem Lv.next {l0 : Nat} {r0 : List Nd} {j : Nat} (h : Lv l0 r0 j) (k : 2 ≤ (nx j r0).length) : Lv l0 r0 (j + 1) ∧ 2 * (nx (j + 1) r0).length ≤ (nx j r0).length := by
  have s := h.small
  obtain ⟨h1, h2, h3, h4⟩ := h
  obtain ⟨k1, k2, k3, k4⟩ := Nx_ok h1 h2 k (by omega)
  refine ⟨⟨k1, k2, k3, ?_⟩, k4⟩
  show (Nx (nx j r0)).length * 2 ^ (l0 + j + 1) ≤ 1440
  rw [Nat.pow_succ, Nat.mul_comm (2 ^ (l0 + j)) 2, ← Nat.mul_assoc]
  refine Nat.le_trans (Nat.mul_le_mul_right _ ?_) h4
  omega
theorem nx_add (k : Nat) (r : List Nd) : ∀ s : Nat, nx (k + s) r = nx s (nx k r)
  | 0 => rfl
  | s + 1 => by
    show Nx (nx (k + s) r) = Nx (nx s (nx k r))
    rw [nx_add k r s]
/-- how many rows -/
def Top (r0 : List Nd) (t : Nat) : Prop := (r0 = [] ∧ t = 0) ∨ (r0 ≠ [] ∧ ∃ s, t = s + 1 ∧ (nx s r0).length ≤ 1 ∧ ∀ j, j < s → 1 < (nx j r0).length)
theorem Top.one {r0 : List Nd} {t t' : Nat} (h : Top r0 t) (k : Top r0 t') : t = t' := by
  rcases h with ⟨h1, h2⟩ | ⟨h1, s, h2, h3, h4⟩
  · rcases k with ⟨_, k2⟩ | ⟨k1, _⟩
    · omega
    · exact absurd h1 k1
  · rcases k with ⟨k1, _⟩ | ⟨_, s', k2, k3, k4⟩
    · exact absurd k1 h1
    · rcases Nat.lt_trichotomy s s' with z | z | z
      · have := k4 s z
        omega
      · omega
      · have := h4 s' z
        omega
theorem giv_row0 {gs : List (Nd × Nat)} (g : Giv gs) (n : gs ≠ []) (l : gs.length ≤ 1440) : Lv 0 (gs.map mkRun) 0 := by
  have nr : ∀ p ∈ gs, p.1.isRun = false := fun p hp => by
    obtain ⟨⟨k, e, _⟩, _⟩ := g.1 p hp
    rw [e]
    rfl
  refine ⟨OkAll.of fun x hx => ?_, unb_runs nr g.2, ?_, ?_⟩
  · obtain ⟨p, hp, rfl⟩ := List.mem_map.mp hx
    obtain ⟨⟨k, e, hk⟩, c1, c2⟩ := g.1 p hp
    have o : Ok p.1 0 := by
      rw [e]
      unfold Ok
      exact ⟨rfl, hk⟩
    unfold mkRun
    split
    · exact o
    · unfold Ok
      exact ⟨by omega, Nat.le_trans c2 (by decide), nr p hp, o⟩
  · show 1 ≤ (gs.map mkRun).length
    rw [List.length_map]
    exact List.length_pos_iff.mpr n
  · show (gs.map mkRun).length * 2 ^ (0 + 0) ≤ 1440
    rw [List.length_map]
    simpa using l
/-- the rows as data -/
noncomputable def rdat (r0 : List Nd) (t : Nat) : List PyData := (List.range t).map fun j => .tuple (datAll (nx j r0))
theorem rdat_more (r0 : List Nd) (t : Nat) : rdat r0 (t + 1) = rdat r0 t ++ [.tuple (datAll (nx t r0))] := by
  unfold rdat
  rw [List.range_succ, List.map_append]
  rfl
end
end C62

set_option Elab.async false
set_option linter.all false
set_option maxRecDepth 100000
namespace C62
open PySem PySem.Spec PyProof.Rows L2 Loc RZ
/-! ### made_runs and the law's own joining -/
section
variable {P : Program} {w : World} {K : PySem.W.Frag} {mg : Str → Option Value} {base : Heap}
theorem scRunOf : FnScope ["node", "count"] ["node", "count"] (defScope sRunOf) := ⟨rfl, rfl, rfl, by decide +kernel, rfl, by decide +kernel, by decide +kernel⟩
theorem scMade : FnScope ["nodes", "made", "begin", "end"] ["nodes"] (defScope sMade) := ⟨rfl, rfl, rfl, by decide +kernel, rfl, by decide +kernel, by decide +kernel⟩
def spRunOf (K : PySem.W.Frag) : Sp := fun vs H Q _ => ∃ (v : V) (n : Nd) (z : Int) (c : Nat), vs = [v, .int z] ∧ z = c ∧ NdV K H v n ∧ ∀ H' u, Same H H' → NdV K H' u (mkRun (n, c)) → Q u H'
theorem ok_runof {f : Addr} {fd : FuncData} {k : Nat} (F : Fun K "run_of" "run_of" sRunOf f fd) : FnOk P w K mg base CX0 (k + 1) f fd ["node", "count"] (spRunOf K) := by
  refine F.ok scRunOf (fun vs H Q E h => ?_) (fun cdv A outer s H vs Q E hr h => ?_)
  · obtain ⟨v, n, z, c, rfl, _⟩ := h
    rfl
  · obtain ⟨v, n, z, c, rfl, rfl, hn, q⟩ := h
    refine ⟨_, pss_cons (ps_if (pt_cmpR op_eq (pv 1) pe_int (nomark _)) (pss_one (ps_ret (pv 0))) pss_nil) (pss_one (ps_ret (pe_tup (pa_cons pe_str (pa_cons (pv 0) (pa_cons (pv 1) pa_nil)))))), ?_⟩
    refine ⟨_, rfl, rfl, _, rfl, ite2 (fun e => ?_) (fun e => ?_)⟩
    · have e0 : (c : Int) = 1 := V.int.inj (of_decide_eq_true e)
      have e1 : c = 1 := by omega
      refine ⟨v, rfl, q H v (Same.refl H) ?_⟩
      unfold mkRun
      rw [if_pos e1]
      exact hn
    · have e1 : c ≠ 1 := fun z => e (by rw [z]; rfl)
      refine ⟨v, rfl, _, rfl, (show 3 ≤ sizeLine from by decide), fun p hp => q _ _ (sameN hp) ?_⟩
      unfold mkRun
      rw [if_neg e1]
      exact .ofRun (.inl (.inl upd_same)) (hn.up (.of (sameN hp)))
def spMade (K : PySem.W.Frag) : Sp := fun vs H Q _ => ∃ (a : Addr) (us : List V) (ns : List Nd) (l : Nat), vs = [.ref a] ∧ SqT K H a us ∧ NdsV K H us ns ∧ OkAll ns l ∧ l ≤ 20 ∧ ns.length ≤ 100000 ∧
  ∀ H' p ws, Same H H' → H' p = some (.tup ws) → NdsV K H' ws (mkRuns ns) → Q (.ref p) H'
theorem grp_take {ns : List Nd} {b e : Nat} {x : Nd} (hbe : b < e) (he : e ≤ ns.length) (h : ∀ j, b ≤ j → j < e → ns[j]? = some x) (hl : (ns.take b).getLast? ≠ some x) : grp (ns.take e) = grp (ns.take b) ++ [(x, e - b)] := by
  have : ns.take e = ns.take b ++ List.replicate ((e - b - 1) + 1) x := by
    refine List.ext_getElem? fun j => ?_
    rw [List.getElem?_append, List.getElem?_take, List.getElem?_take, List.length_take, List.getElem?_replicate]
    rcases Nat.lt_or_ge j b with c | c
    · rw [if_pos (by omega), if_pos (by omega), if_pos c]
    · rw [if_neg (show ¬ j < min b ns.length by omega)]
      rcases Nat.lt_or_ge j e with c2 | c2
      · rw [if_pos c2, if_pos (by omega), h j c c2]
      · rw [if_neg (by omega), if_neg (by omega)]
  rw [this, grp_rep _ _ hl]
  congr 3
  omega
theorem ok_made {f g : Addr} {fd gd : FuncData} {k : Nat} (F : Fun K "made_runs" "made_runs" sMade f fd) (R : Fun K "run_of" "run_of" sRunOf g gd) (gR : mg "run_of" = some (.ref g)) (bR : Binds K gd ["node", "count"] [])
    (ml : mg "len" = none) (mt : mg "tuple" = none) : FnOk P w K mg base CX0 (k + 2) f fd ["nodes"] (spMade K) := by
  have GR : FnOk P w K mg base CX0 (k + 1) g gd ["node", "count"] (spRunOf K) := ok_runof R
  refine F.ok scMade (fun vs H Q E h => ?_) (fun cdv A outer s H vs Q E hr h => ?_)
  · obtain ⟨a, us, ns, l, rfl, _⟩ := h
    rfl
  · obtain ⟨a, us, ns, l, rfl, hS, hn, ok, l20, hlen, q⟩ := h
    refine ⟨_, pss_cons (ps_set (i := 1) scMade.nd rfl (.inl rfl) (pe_lst pa_nil))
      (pss_cons (ps_set (i := 2) scMade.nd rfl (.inl rfl) pe_int)
      (pss_cons (ps_while PassesOwn.never (pt_cmpR op_lt (pv 2) (pe_callB call_len_seq (by rfl) ml PySem.boot_len (pa_cons (pv 0) pa_nil)) (nomark _))
        (pss_cons (ps_set (i := 3) scMade.nd rfl (.inl rfl) (pe_op op_add (pv 2) pe_int))
        (pss_cons (ps_while PassesOwn.never (PW.pt (pw_and (pt_cmpR op_lt (pv 3) (pe_callB call_len_seq (by rfl) ml PySem.boot_len (pa_cons (pv 0) pa_nil)) (nomark _))
            (pw_and1 (pt_cmpR (op_eqD hr.units) (pe_ix ix_tup (pv 0) (pv 3) (fun _ _ => rfl)) (pe_ix ix_tup (pv 0) (pv 2) (fun _ _ => rfl)) (nomark _)))))
          (pss_one (ps_aug (i := 3) scMade.nd rfl (.inl rfl) pe_int ip_add)))
        (pss_cons (ps_expr (pe_bm PySem.F.plainAttrs_list PySem.F.slot_list_append PySem.F.type_list_append mt_append (pv 1)
            (pa_cons (pe_call GR hr (by rfl) gR R.kp bR .nil pass0 (pa_cons (pe_ix ix_tup (pv 0) (pv 2) (fun _ _ => rfl)) (pa_cons (pe_op op_sub (pv 3) (pv 2)) pa_nil))) pa_nil)))
        (pss_one (ps_set (i := 2) scMade.nd rfl (.inl rfl) (pv 3)))))))
      (pss_one (ps_ret (pe_callTy call_tuple_of (by rfl) mt PyProof.Rows.boot_tuple (pa_cons (pv 1) pa_nil)))))), ?_⟩
    refine ⟨(show 0 ≤ sizeLine from by decide), fun M hM => ?_⟩
    refine ⟨fun m σ H' => ∃ (b : Nat) (ws : List V) (y3 : Option V), m = ns.length - b ∧ b ≤ ns.length ∧ σ = [some (.ref a), some (.ref M), some (.int b), y3] ∧ H' M = some (.lst ws) ∧ NdsV K H' ws (mkRuns (ns.take b)) ∧ Same H H' ∧
        (∀ x, ns[b]? = some x → (ns.take b).getLast? ≠ some x), ⟨ns.length, 0, [], none, rfl, Nat.zero_le _, rfl, upd_same, ?_, sameN hM, fun x _ => by simp⟩, ?_⟩
    · rw [List.take_zero]
      exact .nil
    rintro m σ H1 ⟨b, ws, y3, rfl, hb, rfl, e1, e2, s1, bd⟩
    have hS1 := sameT s1 hS
    have hn1 : NdsV K H1 us ns := hn.up (.of s1)
    have hlu := hn.len
    refine ⟨_, rfl, .ref a, rfl, a, us, rfl, .inr hS1, _, _, rfl, rfl, _, rfl, ite2 (fun e => ?_) (fun e => ?_)⟩
    · have hlt : b < ns.length := by
        have : (b : Int) < ((us.length : Nat) : Int) := of_decide_eq_true e
        omega
      obtain ⟨x, hx⟩ := get_of hlt
      obtain ⟨vx, hvx, kx⟩ := hn1.at hx
      have okx := ok.mem x (List.mem_of_getElem? hx)
      refine ⟨fun σ' H' => ∃ (b' : Nat) (ws : List V) (y3 : Option V), b < b' ∧ b' ≤ ns.length ∧ σ' = [some (.ref a), some (.ref M), some (.int b'), y3] ∧ H' M = some (.lst ws) ∧ NdsV K H' ws (mkRuns (ns.take b')) ∧ Same H H' ∧ (∀ x, ns[b']? = some x → (ns.take b').getLast? ≠ some x),
        fun σ' H' hN => ?_, ?_⟩
      · obtain ⟨b', w', y, k1, k2, k3⟩ := hN
        exact ⟨ns.length - b', by omega, b', w', y, rfl, k2, k3⟩
      refine ⟨_, rfl, _, 1, rfl, rfl, ?_⟩
      refine ⟨fun m σ H' => ∃ e : Nat, m = ns.length - e ∧ b < e ∧ e ≤ ns.length ∧ σ = [some (.ref a), some (.ref M), some (.int b), some (.int e)] ∧ H' = H1 ∧ ∀ j, b ≤ j → j < e → ns[j]? = some x,
        ⟨_, b + 1, rfl, by omega, hlt, ?_, rfl, fun j j1 j2 => by rw [show j = b by omega]; exact hx⟩, ?_⟩
      · show _ = [some (V.ref a), some (V.ref M), some (V.int b), some (V.int ((b + 1 : Nat) : Int))]
        rw [Int.natCast_add]
        rfl
      rintro m σ Hc ⟨e', rfl, be, he, rfl, rfl, hj⟩
      refine ⟨_, rfl, .ref a, rfl, a, us, rfl, .inr hS1, _, _, rfl, rfl, _, rfl, ?_⟩
      by_cases c : e' < ns.length
      · have d1 : decide ((e' : Int) < ((us.length : Nat) : Int)) = true := decide_eq_true (by omega)
        rw [d1]
        obtain ⟨y, hy⟩ := get_of c
        obtain ⟨vy, hvy, ky⟩ := hn1.at hy
        have oky := ok.mem y (List.mem_of_getElem? hy)
        refine ⟨.ref a, rfl, _, rfl, a, us, _, vy, rfl, rfl, hS1, atI_nat hvy, .ref a, rfl, _, rfl, a, us, _, vx, rfl, rfl, hS1, atI_nat hvx, _, _, ky, kx, shaped_dat oky l20, shaped_dat okx l20, _, rfl, ?_⟩
        by_cases eq : y = x
        · rw [eqv_yes eq]
          refine ⟨fun σ' H' => σ' = [some (.ref a), some (.ref M), some (.int b), some (.int ((e' + 1 : Nat) : Int))] ∧ H' = Hc, fun σ' H' hN => ⟨ns.length - (e' + 1), by omega, e' + 1, rfl, by omega, c, hN.1, hN.2, fun j j1 j2 => ?_⟩, ?_⟩
          · rcases Nat.lt_or_ge j e' with z | z
            · exact hj j j1 z
            · rw [show j = e' by omega, hy, eq]
          · refine ⟨_, rfl, e', 1, rfl, rfl, ?_, rfl⟩
            rw [Int.natCast_add]
            rfl
        · rw [eqv_no eq]
          have gt := grp_take be he hj (bd x hx)
          refine ⟨.ref M, rfl, .inl ⟨rfl, _, .inl (.inl e1)⟩, .ref a, rfl, _, rfl, a, us, _, vx, rfl, rfl, hS1, atI_nat hvx, _, rfl, _, rfl, _, _, rfl, rfl, vx, x, _, e' - b, rfl, by omega, kx, fun H2 u s2 hu => ⟨M, _, _, rfl, rfl, s2 _ _ e1, ?_, _, rfl, e', ws ++ [u], some (.int e'), be, he, rfl, upd_same, ?_, sameW (s1.trans s2) hM, fun z hz => ?_⟩⟩
          · rw [e2.len]
            refine line5 ?_
            have g1 := grp_len (ns.take b)
            show ((grp (ns.take b)).map mkRun).length ≤ 100000
            rw [List.length_map]
            rw [List.length_take] at g1
            omega
          · have : mkRuns (ns.take e') = mkRuns (ns.take b) ++ [mkRun (x, e' - b)] := by
              unfold mkRuns
              rw [gt, List.map_append]
              rfl
            rw [this]
            have t2 : Tups K H2 (upd H2 M (.lst (ws ++ [u]))) := (But.set (p := M)).tups (s2 _ _ e1)
            exact ((e2.up (.of s2)).up t2).app (.one (hu.up t2))
          · rw [hy] at hz
            cases hz
            have : (ns.take e').getLast? = some x := by
              rw [List.getLast?_eq_getElem?, List.length_take, List.getElem?_take, if_pos (by omega), show min e' ns.length - 1 = e' - 1 by omega]
              exact hj (e' - 1) (by omega) (by omega)
            rw [this]
            intro z
            exact eq (Option.some.inj z).symm
      · have d1 : decide ((e' : Int) < ((us.length : Nat) : Int)) = false := decide_eq_false (by omega)
        rw [d1]
        have gt := grp_take be he hj (bd x hx)
        refine ⟨.ref M, rfl, .inl ⟨rfl, _, .inl (.inl e1)⟩, .ref a, rfl, _, rfl, a, us, _, vx, rfl, rfl, hS1, atI_nat hvx, _, rfl, _, rfl, _, _, rfl, rfl, vx, x, _, e' - b, rfl, by omega, kx, fun H2 u s2 hu => ⟨M, _, _, rfl, rfl, s2 _ _ e1, ?_, _, rfl, e', ws ++ [u], some (.int e'), be, he, rfl, upd_same, ?_, sameW (s1.trans s2) hM, fun z hz => ?_⟩⟩
        · rw [e2.len]
          refine line5 ?_
          have g1 := grp_len (ns.take b)
          show ((grp (ns.take b)).map mkRun).length ≤ 100000
          rw [List.length_map]
          rw [List.length_take] at g1
          omega
        · have : mkRuns (ns.take e') = mkRuns (ns.take b) ++ [mkRun (x, e' - b)] := by
            unfold mkRuns
            rw [gt, List.map_append]
            rfl
          rw [this]
          have t2 : Tups K H2 (upd H2 M (.lst (ws ++ [u]))) := (But.set (p := M)).tups (s2 _ _ e1)
          exact ((e2.up (.of s2)).up t2).app (.one (hu.up t2))
        · rw [List.getElem?_eq_none_iff.mpr (by omega)] at hz
          cases hz
    · have hb' : b = ns.length := by
        have : ¬ (b : Int) < ((us.length : Nat) : Int) := fun z => e (decide_eq_true z)
        omega
      rw [hb', List.take_length] at e2
      refine ⟨.ref M, rfl, M, _, rfl, .inl ⟨.inl (.inl e1), fun t ht => q _ t _ (s1.trans (sameN ht)) upd_same (e2.up (.of (sameN ht)))⟩⟩
end
section
variable {P : Program} {w : World} {K : PySem.W.Frag} {mg : Str → Option Value} {base : Heap}
/-- tuples that hold the rows -/
def RowsV (K : PySem.W.Frag) (H : Hp) (r0 : List Nd) (ws : List V) (t : Nat) : Prop := ws.length = t ∧ ∀ (i : Nat) (v : V), ws[i]? = some v → ∃ (ra : Addr) (us : List V), v = .ref ra ∧ SqT K H ra us ∧ NdsV K H us (nx i r0)
theorem RowsV.nil {H : Hp} {r0 : List Nd} : RowsV K H r0 [] 0 := ⟨rfl, fun i v h => by simp at h⟩
theorem RowsV.up {H H' : Hp} {r0 : List Nd} {ws : List V} {t : Nat} (h : RowsV K H r0 ws t) (e : Tups K H H') : RowsV K H' r0 ws t := ⟨h.1, fun i v hv => by
  obtain ⟨ra, us, h1, h2, h3⟩ := h.2 i v hv
  exact ⟨ra, us, h1, e _ _ h2, h3.up e⟩⟩
theorem RowsV.app {H : Hp} {r0 : List Nd} {ws : List V} {t : Nat} {ra : Addr} {us : List V} (h : RowsV K H r0 ws t) (ht : SqT K H ra us) (hn : NdsV K H us (nx t r0)) : RowsV K H r0 (ws ++ [.ref ra]) (t + 1) := by
  refine ⟨by rw [List.length_append, h.1]; rfl, fun i v hv => ?_⟩
  by_cases c : i < ws.length
  · rw [List.getElem?_append_left c] at hv
    exact h.2 i v hv
  · rw [List.getElem?_append_right (by omega)] at hv
    have e0 : i - ws.length = 0 := by
      rcases Nat.eq_zero_or_pos (i - ws.length) with z' | z'
      · exact z'
      · rw [List.getElem?_eq_none_iff.mpr (by simp; omega)] at hv
        cases hv
    rw [e0] at hv
    have hv := Option.some.inj hv
    have e1 : i = t := by rw [← h.1]; omega
    rw [e1]
    exact ⟨ra, us, hv.symm, ht, hn⟩
theorem scRows : FnScope ["runs", "row", "rows", "element", "count"] ["runs"] (defScope sRows) := ⟨rfl, rfl, rfl, by decide +kernel, rfl, by decide +kernel, by decide +kernel⟩
def spRows (K : PySem.W.Frag) : Sp := fun vs H Q _ => ∃ (a : Addr) (ws : List V) (gs : List (Nd × Nat)) (l0 : Nat), vs = [.ref a] ∧ SqT K H a ws ∧ PrsV K H ws gs ∧ (gs ≠ [] → Lv l0 (gs.map mkRun) 0) ∧ gs.length ≤ 1440 ∧
  ∀ H' p us t, Same H H' → SqT K H' p us → RowsV K H' (gs.map mkRun) us t → Top (gs.map mkRun) t → Q (.ref p) H'
theorem row_of {H : Hp} {ra : Addr} {us : List V} {r0 : List Nd} {l0 j : Nat} (lv : Lv l0 r0 j) (hT : SqT K H ra us) (hn : NdsV K H us (nx j r0)) (h2 : 2 ≤ (nx j r0).length) : RowV K 20 H ra (nx j r0) := by
  have s := lv.small
  have s7 := lv.two h2
  refine ⟨us, l0 + j, hT, hn, lv.1, lv.2.1, wideL (l0 + j) (by omega), fun n hn => ?_, h2, by omega⟩
  have := ht_le n (l0 + j) (lv.1.mem n hn)
  split at this <;> omega
theorem ok_rows {f g1 g2 g3 : Addr} {fd e1 e2 e3 : FuncData} (F : Fun K "rows_of" "rows_of" sRows f fd) (B : FnOk P w K mg base CX0 27 g1 e1 ["row"] (spBlocks K 20)) (B' : Fun K "blocks" "blocks" sBlocks g1 e1) (gB : mg "blocks" = some (.ref g1)) (bB : Binds K e1 ["row"] [])
    (M : FnOk P w K mg base CX0 2 g2 e2 ["nodes"] (spMade K)) (M' : Fun K "made_runs" "made_runs" sMade g2 e2) (gM : mg "made_runs" = some (.ref g2)) (bM : Binds K e2 ["nodes"] [])
    (R : Fun K "run_of" "run_of" sRunOf g3 e3) (gR : mg "run_of" = some (.ref g3)) (bR : Binds K e3 ["node", "count"] []) (ml : mg "len" = none) (mt : mg "tuple" = none) : FnOk P w K mg base CX0 28 f fd ["runs"] (spRows K) := by
  have GR : FnOk P w K mg base CX0 1 g3 e3 ["node", "count"] (spRunOf K) := ok_runof R
  refine F.ok scRows (fun vs H Q E h => ?_) (fun cdv A outer s H vs Q E hr h => ?_)
  · obtain ⟨a, ws, gs, l0, rfl, _⟩ := h
    rfl
  · obtain ⟨a, ws, gs, l0, rfl, hT, hP, giv, l100, q⟩ := h
    have r1 := hr.mono (j := 1) (by omega)
    have r2 := hr.mono (j := 2) (by omega)
    refine ⟨_, pss_cons (ps_if (pt_cmpR op_eq (pe_callB call_len_seq (by rfl) ml PySem.boot_len (pa_cons (pv 0) pa_nil)) pe_int (nomark _)) (pss_one (ps_ret (pe_tup pa_nil))) pss_nil)
      (pss_cons (ps_set (i := 1) scRows.nd rfl (.inl rfl) (pe_callTy call_tuple_of (by rfl) mt PyProof.Rows.boot_tuple (pa_cons
          (pe_lc (own := [("element", 3), ("count", 4)]) (g := gTup K 2 (gCons (gName 3) (gCons (gName 4) gNil))) (tt := tYes) rfl scRows.nd (pi_tup (pv 0)) (blkOk_by (N := ["runs", "row", "rows", "element", "count"]) (sc := defScope sRows) (by decide +kernel))
            (fun _ _ _ _ _ => pg_tup rfl (pgs_cons (pg_name (i := 3) scRows.nd rfl (Or.inl rfl) (hf := Or.inr rfl)) (pgs_cons (pg_name (i := 4) scRows.nd rfl (Or.inl rfl) (hf := Or.inr rfl)) pgs_nil))) (fun _ _ _ _ _ => pts_nil)
            (fun _ _ _ _ _ => pe_call GR r1 (by rfl) gR R.kp bR .nil pass0 (pa_cons (pv 3) (pa_cons (pv 4) pa_nil)))) pa_nil)))
      (pss_cons (ps_set (i := 2) scRows.nd rfl (.inl rfl) (pe_lst (pa_cons (pv 1) pa_nil)))
      (pss_cons (ps_while PassesOwn.never (pt_cmpR op_gt (pe_callB call_len_seq (by rfl) ml PySem.boot_len (pa_cons (pv 1) pa_nil)) pe_int (nomark _))
        (pss_cons (ps_set (i := 1) scRows.nd rfl (.inl rfl) (pe_call M r2 (by rfl) gM M'.kp bM .nil pass0 (pa_cons (pe_call B hr (by rfl) gB B'.kp bB .nil pass0 (pa_cons (pv 1) pa_nil)) pa_nil)))
        (pss_one (ps_expr (pe_bm PySem.F.plainAttrs_list PySem.F.slot_list_append PySem.F.type_list_append mt_append (pv 2) (pa_cons (pv 1) pa_nil))))))
      (pss_one (ps_ret (pe_callTy call_tuple_of (by rfl) mt PyProof.Rows.boot_tuple (pa_cons (pv 2) pa_nil))))))), ?_⟩
    have hlw := PrsV.len hP
    refine ⟨.ref a, rfl, a, ws, rfl, .inr hT, rfl, _, rfl, ite2 (fun e => ?_) (fun e => ?_)⟩
    · have e0 : ((ws.length : Nat) : Int) = 0 := V.int.inj (of_decide_eq_true e)
      have e1 : gs = [] := List.eq_nil_of_length_eq_zero (by omega)
      subst e1
      exact ⟨(show 0 ≤ sizeLine from by decide), fun t nt => q _ t [] 0 (sameN nt) (.inl (.inl upd_same)) .nil (.inl ⟨rfl, rfl⟩)⟩
    have gne : gs ≠ [] := fun z => e (by
      have : ws.length = 0 := by rw [hlw, z]; rfl
      rw [this]
      rfl)
    refine ⟨.ref a, rfl, a, rfl, ⟨ws, hT⟩, fun D nD => ?_⟩
    refine lc_tup (xs := ws) (fun i H' => ∃ vs', H' D = some (.lst vs') ∧ NdsV K H' vs' ((gs.take i).map mkRun) ∧ Same H H') ⟨[], upd_same, .nil, sameN nD⟩ (fun i H' _ hp => ?_) (fun i u H' hu hp => ?_) (fun H1 hp => ?_)
    · obtain ⟨_, _, _, s1⟩ := hp
      exact sameT s1 hT
    · obtain ⟨vs', gD, dD, s1⟩ := hp
      obtain ⟨pr, ra, v, hpi, rfl, t1, t2⟩ := (PrsV.up (.of s1) hP).get hu
      have hil := (List.getElem?_eq_some_iff.mp hpi).1
      refine ⟨ra, _, rfl, t1, rfl, v, _, rfl, _, [], rfl, rfl, rfl, ?_⟩
      refine ⟨v, rfl, _, rfl, v, pr.1, _, pr.2, rfl, rfl, t2, fun H3 u3 s3 k3 => ⟨vs', s3 _ _ gD, ?_, vs' ++ [u3], upd_same, ?_, sameW (s1.trans s3) nD⟩⟩
      · rw [dD.len, List.length_map]
        exact line5 (small_take (by omega))
      · rw [take_more hpi, List.map_append]
        have t9 : Tups K H3 (upd H3 D (.lst (vs' ++ [u3]))) := (But.set (p := D)).tups (s3 _ _ gD)
        exact ((dD.up (.of s3)).up t9).app (.one (k3.up t9))
    obtain ⟨vs', gD, dD, s1⟩ := hp
    have full : gs.take ws.length = gs := List.take_of_length_le (by rw [hlw]; exact Nat.le_refl _)
    rw [full] at dD
    have lv0 := giv gne
    have rne : gs.map mkRun ≠ [] := fun z => gne (by simpa using z)
    generalize gs.map mkRun = r0 at q dD lv0 rne
    refine ⟨D, vs', rfl, .inl ⟨.inl (.inl gD), fun t nt => ⟨_, rfl, (show 1 ≤ sizeLine from by decide), fun L nL => ?_⟩⟩⟩
    have sL := sameN (o := .lst [V.ref t]) nL
    have st := (sameN (o := .tup vs') nt).trans sL
    refine ⟨fun m' σ H' => ∃ j ra us rv y3 y4, m' = (nx j r0).length ∧ (∀ i, i < j → 1 < (nx i r0).length) ∧ Lv l0 r0 j ∧ σ = [some (.ref a), some (.ref ra), some (.ref L), y3, y4] ∧ SqT K H' ra us ∧ NdsV K H' us (nx j r0) ∧ H' L = some (.lst rv) ∧ RowsV K H' r0 rv (j + 1) ∧ Same H H',
      ⟨_, 0, t, vs', [.ref t], _, _, rfl, (fun i hi => absurd hi (Nat.not_lt_zero _)), lv0, rfl, .inl (.inl (sL _ _ upd_same)), dD.up (.of st), upd_same, ?_, s1.trans st⟩, ?_⟩
    · exact RowsV.nil.app (.inl (.inl (sL _ _ upd_same))) (dD.up (.of st))
    rintro m' σ H2 ⟨j, ra, us, rv, y3, y4, rfl, hj, lv, rfl, k1, k2, k3, k4, k5⟩
    have lus := k2.len
    refine ⟨.ref ra, rfl, ra, us, rfl, .inr k1, _, 1, rfl, rfl, _, rfl, ite2 (fun e => ?_) (fun e => ?_)⟩
    · have h2 : 2 ≤ (nx j r0).length := by
        have := of_decide_eq_true e
        omega
      have nxt := lv.next h2
      have sm := lv.small
      refine ⟨fun σ' H' => ∃ ra us rv y3 y4, Lv l0 r0 (j + 1) ∧ σ' = [some (.ref a), some (.ref ra), some (.ref L), y3, y4] ∧ SqT K H' ra us ∧ NdsV K H' us (nx (j + 1) r0) ∧ H' L = some (.lst rv) ∧ RowsV K H' r0 rv (j + 1 + 1) ∧ Same H H', fun σ' H' hN => ?_, ?_⟩
      · obtain ⟨ra', us', rv', z3, z4, i1, i2⟩ := hN
        refine ⟨(nx (j + 1) r0).length, by omega, j + 1, ra', us', rv', z3, z4, rfl, fun i hi => ?_, i1, i2⟩
        rcases Nat.lt_or_ge i j with z | z
        · exact hj i z
        · have : i = j := by omega
          rw [this]
          exact h2
      · refine ⟨.ref ra, rfl, ra, nx j r0, rfl, row_of lv k1 k2 h2, fun H3 pb bs s3 hb kb => ?_⟩
        have okb := ok_pieces lv.1 lv.2.1 h2
        refine ⟨pb, bs, _, l0 + j + 1, rfl, hb, kb, okb, by omega, ?_, fun H4 pr rs s4 hr4 kr => ?_⟩
        · rw [List.length_map]
          have := pieces_fst_len h2
          omega
        have s34 := s3.trans s4
        have gL4 := s34 _ _ k3
        refine ⟨.ref L, rfl, .inl ⟨rfl, _, .inl (.inl gL4)⟩, .ref pr, rfl, L, _, _, rfl, rfl, gL4, line5 (by rw [k4.1]; omega), pr, rs, rv ++ [.ref pr], _, _, nxt.1, rfl, ?_, ?_, upd_same, ?_, sameW (k5.trans s34) (freeS (s1.trans (sameN nt)) nL)⟩
        all_goals have t9 : Tups K H4 (upd H4 L (.lst (rv ++ [.ref pr]))) := (But.set (p := L)).tups gL4
        · exact t9 _ _ (.inl (.inl hr4))
        · exact NdsV.up t9 kr
        · exact ((k4.up (.of s34)).up t9).app (t9 _ _ (.inl (.inl hr4))) (NdsV.up t9 kr)
    · have h1 : (nx j r0).length ≤ 1 := by
        have : ¬ (1 : Int) < ((us.length : Nat) : Int) := fun z => e (decide_eq_true z)
        omega
      exact ⟨.ref L, rfl, L, rv, rfl, .inl ⟨.inl (.inl k3), fun t2 n2 => q _ t2 rv (j + 1) (k5.trans (sameN n2)) (.inl (.inl upd_same)) (k4.up (.of (sameN n2))) (.inr ⟨rne, j, rfl, h1, hj⟩)⟩⟩
end
end C62

set_option Elab.async false
set_option linter.all false
set_option maxRecDepth 100000
namespace C62
open PySem PySem.Spec PyProof.Rows L2 Loc RZ
section
variable {P : Program} {w : World} {K : PySem.W.Frag} {mg : Str → Option Value} {base : Heap}
theorem scTree : FnScope ["runs", "rows"] ["runs"] (defScope sTree) := ⟨rfl, rfl, rfl, by decide +kernel, rfl, by decide +kernel, by decide +kernel⟩
theorem lv_all {r0 : List Nd} {l0 : Nat} (h0 : Lv l0 r0 0) : ∀ s, (∀ j, j < s → 1 < (nx j r0).length) → Lv l0 r0 s
  | 0, _ => h0
  | s + 1, h => ((lv_all h0 s fun j hj => h j (by omega)).next (h s (by omega))).1
theorem one_node {l0 : Nat} {r0 : List Nd} {s : Nat} (h : Lv l0 r0 s) (h1 : (nx s r0).length ≤ 1) : ∃ n, nx s r0 = [n] := by
  match e : nx s r0, h1 with
  | [n], _ => exact ⟨n, rfl⟩
  | [], _ =>
    have := h.2.2.1
    rw [e] at this
    cases this
/-- the node of the last row over a row of level l0 -/
def TreeL (K : PySem.W.Frag) (H : Hp) (v : V) (l0 : Nat) (r0 : List Nd) : Prop := ∃ n s, NdV K H v n ∧ Ok n (l0 + s) ∧ l0 + s ≤ 10 ∧ ht n < 22 ∧ nx s r0 = [n] ∧ Top r0 (s + 1)
theorem TreeL.up {H H' : Hp} {v : V} {l0 : Nat} {r0 : List Nd} (h : TreeL K H v l0 r0) (e : Tups K H H') : TreeL K H' v l0 r0 := by
  obtain ⟨n, s, h1, h2⟩ := h
  exact ⟨n, s, h1.up e, h2⟩
theorem TreeL.one {H H' : Hp} {v u : V} {l0 : Nat} {r0 : List Nd} (h : TreeL K H v l0 r0) (k : TreeL K H' u l0 r0) : ∃ n l, NdV K H v n ∧ NdV K H' u n ∧ Ok n l ∧ l ≤ 10 ∧ ht n < 22 := by
  obtain ⟨n, s, h1, h2, h3, h4, h5, h6⟩ := h
  obtain ⟨m, t, k1, k2, k3, k4, k5, k6⟩ := k
  have := h6.one k6
  have e : t = s := by omega
  subst e
  rw [h5] at k5
  have en : n = m := by simpa using k5
  subst en
  exact ⟨n, _, h1, k1, h2, h3, h4⟩
def spTreeL (K : PySem.W.Frag) : Sp := fun vs H Q _ => ∃ (a : Addr) (ws : List V) (gs : List (Nd × Nat)) (l0 : Nat), vs = [.ref a] ∧ SqT K H a ws ∧ PrsV K H ws gs ∧ gs ≠ [] ∧ Lv l0 (gs.map mkRun) 0 ∧ gs.length ≤ 1440 ∧ ∀ H' u, Same H H' → TreeL K H' u l0 (gs.map mkRun) → Q u H'
theorem ok_treeL {f g : Addr} {fd gd : FuncData} (F : Fun K "tree_of" "tree_of" sTree f fd) (G : FnOk P w K mg base CX0 28 g gd ["runs"] (spRows K)) (G' : Fun K "rows_of" "rows_of" sRows g gd) (gG : mg "rows_of" = some (.ref g)) (bG : Binds K gd ["runs"] []) (ml : mg "len" = none) : FnOk P w K mg base CX0 29 f fd ["runs"] (spTreeL K) := by
  refine F.ok scTree (fun vs H Q E h => ?_) (fun cdv A outer s H vs Q E hr h => ?_)
  · obtain ⟨a, ws, gs, l0, rfl, _⟩ := h
    rfl
  · obtain ⟨a, ws, gs, l0, rfl, hT, hP, gne, lv0, l300, q⟩ := h
    refine ⟨_, pss_cons (ps_set (i := 1) scTree.nd rfl (.inl rfl) (pe_call G hr (by rfl) gG G'.kp bG .nil pass0 (pa_cons (pv 0) pa_nil)))
      (pss_cons (ps_if (pt_cmpR op_eq (pe_callB call_len_seq (by rfl) ml PySem.boot_len (pa_cons (pv 1) pa_nil)) pe_int (nomark _)) (pss_one (ps_ret pe_non)) pss_nil)
      (pss_one (ps_ret (pe_ix ix_tup (pe_ix ix_tup (pv 1) (pe_un un_neg pe_int) (fun _ _ => rfl)) pe_int (fun _ _ => rfl))))), ?_⟩
    refine ⟨.ref a, rfl, a, ws, gs, l0, rfl, hT, hP, (fun _ => lv0), l300, fun H1 p us t s1 hp hR top => ?_⟩
    refine ⟨.ref p, rfl, p, us, rfl, .inr hp, rfl, _, rfl, ?_⟩
    have lus : us.length = t := hR.1
    rcases top with ⟨z, rfl⟩ | ⟨rne, s', rfl, h1, hj⟩
    · exact absurd (by simpa using z) gne
    have lv := lv_all lv0 s' hj
    obtain ⟨n, en⟩ := one_node lv h1
    have okn : Ok n (l0 + s') := lv.1.mem n (by rw [en]; exact List.mem_cons_self)
    obtain ⟨v, hv⟩ := get_of (l := us) (i := s') (by omega)
    obtain ⟨ra, xs, rfl, hra, hx⟩ := hR.2 s' v hv
    rw [en] at hx
    obtain ⟨u, q0, rfl, hu, _⟩ := hx.inv
    rw [decide_eq_false (show ¬ V.int ((us.length : Nat) : Int) = V.int 0 from fun z => by
      have := V.int.inj z
      omega)]
    refine iteF ⟨.ref p, rfl, 1, rfl, p, us, -1, .ref ra, rfl, rfl, hp, ?_, ra, _, 0, u, rfl, rfl, hra, atI_nat (j := 0) rfl, q H1 u s1 ⟨n, s', hu, okn, lv.small.1, ?_, en, .inr ⟨rne, s', rfl, h1, hj⟩⟩⟩
    · rcases List.eq_nil_or_concat us with e1 | ⟨init, y, e1⟩
      · rw [e1] at lus
        cases lus
      · rw [e1, List.concat_eq_append] at hv lus ⊢
        rw [List.length_append] at lus
        have li : init.length = s' := by simpa using lus
        rw [List.getElem?_append_right (by omega), li, Nat.sub_self] at hv
        rw [Option.some.inj hv]
        exact atI_last _ _
    · have := ht_le n _ okn
      have := lv.small.1
      split at * <;> omega

end
section
variable {P : Program} {w : World} {K : PySem.W.Frag} {mg : Str → Option Value} {base : Heap}
/-- two promises of one def -/
theorem fn_or {k : Nat} {f : Addr} {fd : FuncData} {ps : List Str} {s1 s2 : Sp} (F : FnOk P w K mg base CX0 k f fd ps s1) (G : FnOk P w K mg base CX0 k f fd ps s2) : FnOk P w K mg base CX0 k f fd ps (fun vs H Q E => s1 vs H Q E ∨ s2 vs H Q E) :=
  ⟨fun vs H Q E h => h.elim (F.len vs H Q E) (G.len vs H Q E), fun A outer s H args us vs Q E a b c d h => h.elim (F.run A outer s H args us vs Q E a b c d) (G.run A outer s H args us vs Q E a b c d)⟩
end
set_option maxHeartbeats 0 in
structure Facts (K : PySem.W.Frag) (mg : Str → Option Value) where
  {uis_whole : Addr} {vis_whole : FuncData}
  fis_whole : Fun K "is_whole" "is_whole" sWhole uis_whole vis_whole
  gis_whole : mg "is_whole" = some (.ref uis_whole)
  bis_whole : Binds K vis_whole ["value"] []
  {uis_element : Addr} {vis_element : FuncData}
  fis_element : Fun K "is_element" "is_element" sElement uis_element vis_element
  gis_element : mg "is_element" = some (.ref uis_element)
  bis_element : Binds K vis_element ["value"] []
  {uis_count : Addr} {vis_count : FuncData}
  fis_count : Fun K "is_count" "is_count" sCount uis_count vis_count
  gis_count : mg "is_count" = some (.ref uis_count)
  bis_count : Binds K vis_count ["value", "least"] []
  {uis_run : Addr} {vis_run : FuncData}
  fis_run : Fun K "is_run" "is_run" sIsRun uis_run vis_run
  gis_run : mg "is_run" = some (.ref uis_run)
  bis_run : Binds K vis_run ["value"] []
  {uis_block : Addr} {vis_block : FuncData}
  fis_block : Fun K "is_block" "is_block" sIsBlk uis_block vis_block
  gis_block : mg "is_block" = some (.ref uis_block)
  bis_block : Binds K vis_block ["value"] []
  {ubase_of : Addr} {vbase_of : FuncData}
  fbase_of : Fun K "base_of" "base_of" sBase ubase_of vbase_of
  gbase_of : mg "base_of" = some (.ref ubase_of)
  bbase_of : Binds K vbase_of ["node"] []
  {urun_of : Addr} {vrun_of : FuncData}
  frun_of : Fun K "run_of" "run_of" sRunOf urun_of vrun_of
  grun_of : mg "run_of" = some (.ref urun_of)
  brun_of : Binds K vrun_of ["node", "count"] []
  {uis_node : Addr} {vis_node : FuncData}
  fis_node : Fun K "is_node" "is_node" sIsNode uis_node vis_node
  gis_node : mg "is_node" = some (.ref uis_node)
  bis_node : Binds K vis_node ["value"] []
  {ucan_be_parts : Addr} {vcan_be_parts : FuncData}
  fcan_be_parts : Fun K "_can_be_parts" "_can_be_parts" sParts ucan_be_parts vcan_be_parts
  gcan_be_parts : mg "_can_be_parts" = some (.ref ucan_be_parts)
  bcan_be_parts : Binds K vcan_be_parts ["values"] []
  {ufit_together : Addr} {vfit_together : FuncData}
  ffit_together : Fun K "_fit_together" "_fit_together" sFit ufit_together vfit_together
  gfit_together : mg "_fit_together" = some (.ref ufit_together)
  bfit_together : Binds K vfit_together ["nodes"] []
  {ulevel_of : Addr} {vlevel_of : FuncData}
  flevel_of : Fun K "level_of" "level_of" sLevel ulevel_of vlevel_of
  glevel_of : mg "level_of" = some (.ref ulevel_of)
  blevel_of : Binds K vlevel_of ["node"] []
  {utext_of : Addr} {vtext_of : FuncData}
  ftext_of : Fun K "text_of" "text_of" sText utext_of vtext_of
  gtext_of : mg "text_of" = some (.ref utext_of)
  btext_of : Binds K vtext_of ["node"] []
  {unode_with : Addr} {vnode_with : FuncData}
  fnode_with : Fun K "node_with" "node_with" s_node_with unode_with vnode_with
  gnode_with : mg "node_with" = some (.ref unode_with)
  bnode_with : Binds K vnode_with ["text"] []
  {uclosed : Addr} {vclosed : FuncData}
  fclosed : Fun K "_closed" "_closed" s__closed uclosed vclosed
  gclosed : mg "_closed" = some (.ref uclosed)
  bclosed : Binds K vclosed ["parts"] []
  {uread_element : Addr} {vread_element : FuncData}
  fread_element : Fun K "_read_element" "_read_element" s__read_element uread_element vread_element
  gread_element : mg "_read_element" = some (.ref uread_element)
  bread_element : Binds K vread_element ["text", "at"] []
  {uread_count : Addr} {vread_count : FuncData}
  fread_count : Fun K "_read_count" "_read_count" s__read_count uread_count vread_count
  gread_count : mg "_read_count" = some (.ref uread_count)
  bread_count : Binds K vread_count ["node", "text", "at"] []
  {udigits_end : Addr} {vdigits_end : FuncData}
  fdigits_end : Fun K "_digits_end" "_digits_end" s__digits_end udigits_end vdigits_end
  gdigits_end : mg "_digits_end" = some (.ref udigits_end)
  bdigits_end : Binds K vdigits_end ["text", "at"] []
  {uwhole_with : Addr} {vwhole_with : FuncData}
  fwhole_with : Fun K "whole_with" "whole_with" s_whole_with uwhole_with vwhole_with
  gwhole_with : mg "whole_with" = some (.ref uwhole_with)
  bwhole_with : Binds K vwhole_with ["text", "most"] []
  {ufirst_marks : Addr} {vfirst_marks : FuncData}
  ffirst_marks : Fun K "first_marks" "first_marks" sFirst ufirst_marks vfirst_marks
  gfirst_marks : mg "first_marks" = some (.ref ufirst_marks)
  bfirst_marks : Binds K vfirst_marks ["row"] []
  {ufirst_mark : Addr} {vfirst_mark : FuncData}
  ffirst_mark : Fun K "_first_mark" "_first_mark" sFM ufirst_mark vfirst_mark
  gfirst_mark : mg "_first_mark" = some (.ref ufirst_mark)
  bfirst_mark : Binds K vfirst_mark ["texts", "place"] []
  {ufirst_unlike : Addr} {vfirst_unlike : FuncData}
  ffirst_unlike : Fun K "_first_unlike" "_first_unlike" sFU ufirst_unlike vfirst_unlike
  gfirst_unlike : mg "_first_unlike" = some (.ref ufirst_unlike)
  bfirst_unlike : Binds K vfirst_unlike ["one", "other"] []
  {ucode_at : Addr} {vcode_at : FuncData}
  fcode_at : Fun K "_code_at" "_code_at" sCodeAt ucode_at vcode_at
  gcode_at : mg "_code_at" = some (.ref ucode_at)
  bcode_at : Binds K vcode_at ["text", "at"] []
  {unext_marks : Addr} {vnext_marks : FuncData}
  fnext_marks : Fun K "next_marks" "next_marks" sNext unext_marks vnext_marks
  gnext_marks : mg "next_marks" = some (.ref unext_marks)
  bnext_marks : Binds K vnext_marks ["some"] []
  {unext_mark : Addr} {vnext_mark : FuncData}
  fnext_mark : Fun K "_next_mark" "_next_mark" sNm unext_mark vnext_mark
  gnext_mark : mg "_next_mark" = some (.ref unext_mark)
  bnext_mark : Binds K vnext_mark ["some", "place"] []
  {umarks : Addr} {vmarks : FuncData}
  fmarks : Fun K "marks" "marks" sMarks umarks vmarks
  gmarks : mg "marks" = some (.ref umarks)
  bmarks : Binds K vmarks ["row"] []
  {upeaks : Addr} {vpeaks : FuncData}
  fpeaks : Fun K "peaks" "peaks" sPeaks upeaks vpeaks
  gpeaks : mg "peaks" = some (.ref upeaks)
  bpeaks : Binds K vpeaks ["row"] []
  {ucuts : Addr} {vcuts : FuncData}
  fcuts : Fun K "cuts" "cuts" sCuts ucuts vcuts
  gcuts : mg "cuts" = some (.ref ucuts)
  bcuts : Binds K vcuts ["row"] []
  {ublocks : Addr} {vblocks : FuncData}
  fblocks : Fun K "blocks" "blocks" sBlocks ublocks vblocks
  gblocks : mg "blocks" = some (.ref ublocks)
  bblocks : Binds K vblocks ["row"] []
  {umade_runs : Addr} {vmade_runs : FuncData}
  fmade_runs : Fun K "made_runs" "made_runs" sMade umade_runs vmade_runs
  gmade_runs : mg "made_runs" = some (.ref umade_runs)
  bmade_runs : Binds K vmade_runs ["nodes"] []
  {uis_runs : Addr} {vis_runs : FuncData}
  fis_runs : Fun K "is_runs" "is_runs" sIsRuns uis_runs vis_runs
  gis_runs : mg "is_runs" = some (.ref uis_runs)
  bis_runs : Binds K vis_runs ["value"] []
  {uis_pair : Addr} {vis_pair : FuncData}
  fis_pair : Fun K "_is_pair" "_is_pair" sIsPair uis_pair vis_pair
  gis_pair : mg "_is_pair" = some (.ref uis_pair)
  bis_pair : Binds K vis_pair ["value"] []
  {urows_of : Addr} {vrows_of : FuncData}
  frows_of : Fun K "rows_of" "rows_of" sRows urows_of vrows_of
  grows_of : mg "rows_of" = some (.ref urows_of)
  brows_of : Binds K vrows_of ["runs"] []
  {utree_of : Addr} {vtree_of : FuncData}
  ftree_of : Fun K "tree_of" "tree_of" sTree utree_of vtree_of
  gtree_of : mg "tree_of" = some (.ref utree_of)
  btree_of : Binds K vtree_of ["runs"] []
  {umelted : Addr} {vmelted : FuncData}
  fmelted : Fun K "melted" "melted" s_melted umelted vmelted
  gmelted : mg "melted" = some (.ref umelted)
  bmelted : Binds K vmelted ["pieces"] []
  {urun_count : Addr} {vrun_count : FuncData}
  frun_count : Fun K "run_count" "run_count" sCnt urun_count vrun_count
  grun_count : mg "run_count" = some (.ref urun_count)
  brun_count : Binds K vrun_count ["tree"] []
  {upairs_of : Addr} {vpairs_of : FuncData}
  fpairs_of : Fun K "_pairs_of" "_pairs_of" sPairs upairs_of vpairs_of
  gpairs_of : mg "_pairs_of" = some (.ref upairs_of)
  bpairs_of : Binds K vpairs_of ["tree"] []
  {uis_tree : Addr} {vis_tree : FuncData}
  fis_tree : Fun K "is_tree" "is_tree" sIsTree uis_tree vis_tree
  gis_tree : mg "is_tree" = some (.ref uis_tree)
  bis_tree : Binds K vis_tree ["value"] []
  {ushow_tree : Addr} {vshow_tree : FuncData}
  fshow_tree : Fun K "show_tree" "show_tree" s_show_tree ushow_tree vshow_tree
  gshow_tree : mg "show_tree" = some (.ref ushow_tree)
  bshow_tree : Binds K vshow_tree ["tree"] []
  {uread_tree : Addr} {vread_tree : FuncData}
  fread_tree : Fun K "read_tree" "read_tree" s_read_tree uread_tree vread_tree
  gread_tree : mg "read_tree" = some (.ref uread_tree)
  bread_tree : Binds K vread_tree ["text"] []
  {urepeated : Addr} {vrepeated : FuncData}
  frepeated : Fun K "repeated" "repeated" s_repeated urepeated vrepeated
  grepeated : mg "repeated" = some (.ref urepeated)
  brepeated : Binds K vrepeated ["runs", "times"] []
  {uwith_runs : Addr} {vwith_runs : FuncData}
  fwith_runs : Fun K "_with_runs" "_with_runs" s__with_runs uwith_runs vwith_runs
  gwith_runs : mg "_with_runs" = some (.ref uwith_runs)
  bwith_runs : Binds K vwith_runs ["head", "period", "times", "tail"] []
  {ucut : Addr} {vcut : FuncData}
  fcut : Fun K "_cut" "_cut" s__cut ucut vcut
  gcut : mg "_cut" = some (.ref ucut)
  bcut : Binds K vcut ["head", "period", "times", "tail"] []
  {ul_pot : Addr} {vl_pot : FuncData}
  fl_pot : Fun K "_law_pot" "_law_pot" sPot ul_pot vl_pot
  gl_pot : mg "_law_pot" = some (.ref ul_pot)
  bl_pot : Binds K vl_pot ["script", "k"] []
  {ul_take : Addr} {vl_take : FuncData}
  fl_take : Fun K "_law_take" "_law_take" sTake ul_take vl_take
  gl_take : mg "_law_take" = some (.ref ul_take)
  bl_take : Binds K vl_take ["pot", "bound"] []
  {ul_of : Addr} {vl_of : FuncData}
  fl_of : Fun K "_law_of" "_law_of" sOf ul_of vl_of
  gl_of : mg "_law_of" = some (.ref ul_of)
  bl_of : Binds K vl_of ["pot", "some"] []
  {ul_sequence : Addr} {vl_sequence : FuncData}
  fl_sequence : Fun K "_law_sequence" "_law_sequence" sSeq ul_sequence vl_sequence
  gl_sequence : mg "_law_sequence" = some (.ref ul_sequence)
  bl_sequence : Binds K vl_sequence ["pot", "most"] []
  {ul_runs : Addr} {vl_runs : FuncData}
  fl_runs : Fun K "_law_runs" "_law_runs" sLRuns ul_runs vl_runs
  gl_runs : mg "_law_runs" = some (.ref ul_runs)
  bl_runs : Binds K vl_runs ["some"] []
  {ul_wide : Addr} {vl_wide : FuncData}
  fl_wide : Fun K "_law_wide" "_law_wide" sWide ul_wide vl_wide
  gl_wide : mg "_law_wide" = some (.ref ul_wide)
  bl_wide : Binds K vl_wide ["pot", "most"] []
  {ul_text : Addr} {vl_text : FuncData}
  fl_text : Fun K "_law_text" "_law_text" sLText ul_text vl_text
  gl_text : mg "_law_text" = some (.ref ul_text)
  bl_text : Binds K vl_text ["node"] []
  {ul_first : Addr} {vl_first : FuncData}
  fl_first : Fun K "_law_first" "_law_first" sLFirst ul_first vl_first
  gl_first : mg "_law_first" = some (.ref ul_first)
  bl_first : Binds K vl_first ["row"] []
  {ul_round : Addr} {vl_round : FuncData}
  fl_round : Fun K "_law_round" "_law_round" sRound ul_round vl_round
  gl_round : mg "_law_round" = some (.ref ul_round)
  bl_round : Binds K vl_round ["some"] []
  {ul_marks : Addr} {vl_marks : FuncData}
  fl_marks : Fun K "_law_marks" "_law_marks" sLMarks ul_marks vl_marks
  gl_marks : mg "_law_marks" = some (.ref ul_marks)
  bl_marks : Binds K vl_marks ["row"] []
  {ul_pieces : Addr} {vl_pieces : FuncData}
  fl_pieces : Fun K "_law_pieces" "_law_pieces" sLPieces ul_pieces vl_pieces
  gl_pieces : mg "_law_pieces" = some (.ref ul_pieces)
  bl_pieces : Binds K vl_pieces ["row"] []
  {ul_joined : Addr} {vl_joined : FuncData}
  fl_joined : Fun K "_law_joined" "_law_joined" sJoined ul_joined vl_joined
  gl_joined : mg "_law_joined" = some (.ref ul_joined)
  bl_joined : Binds K vl_joined ["nodes"] []
  {ul_rows : Addr} {vl_rows : FuncData}
  fl_rows : Fun K "_law_rows" "_law_rows" sLRows ul_rows vl_rows
  gl_rows : mg "_law_rows" = some (.ref ul_rows)
  bl_rows : Binds K vl_rows ["given"] []
  {ul_tree : Addr} {vl_tree : FuncData}
  fl_tree : Fun K "_law_tree" "_law_tree" sLTree ul_tree vl_tree
  gl_tree : mg "_law_tree" = some (.ref ul_tree)
  bl_tree : Binds K vl_tree ["given"] []
  {ul_right : Addr} {vl_right : FuncData}
  fl_right : Fun K "_law_right" "_law_right" sRight ul_right vl_right
  gl_right : mg "_law_right" = some (.ref ul_right)
  bl_right : Binds K vl_right ["given"] []
  {tDIGITS : Tok}
  DIGITS : mg "DIGITS" = some (.str "0123456789" tDIGITS)
  {tMOST_DIGITS : Tok}
  MOST_DIGITS : mg "MOST_DIGITS" = some (.int 61 tMOST_DIGITS)
  {tSIGNS : Tok}
  SIGNS : mg "SIGNS" = some (.str "0123456789 ()^" tSIGNS)
  {tENDED : Tok}
  ENDED : mg "ENDED" = some (.int 14 tENDED)
  {tMOST_RUNS : Tok}
  MOST_RUNS : mg "MOST_RUNS" = some (.int 300 tMOST_RUNS)
  {tEMPTY : Tok}
  EMPTY : mg "EMPTY" = some (.str "-" tEMPTY)
  {tLEFT_OF_PEAK : Tok}
  LEFT_OF_PEAK : mg "LEFT_OF_PEAK" = some (.int 6 tLEFT_OF_PEAK)
  {tSHOWN : Tok}
  SHOWN : mg "SHOWN" = some (.int 6 tSHOWN)
  ValueError : mg "ValueError" = none
  abs : mg "abs" = none
  all : mg "all" = none
  bool : mg "bool" = none
  enumerate : mg "enumerate" = none
  int : mg "int" = none
  isinstance : mg "isinstance" = none
  len : mg "len" = none
  list : mg "list" = none
  max : mg "max" = none
  min : mg "min" = none
  range : mg "range" = none
  repr : mg "repr" = none
  str : mg "str" = none
  sum : mg "sum" = none
  tuple : mg "tuple" = none
  zip : mg "zip" = none

end C62

set_option Elab.async false
set_option linter.all false
set_option maxRecDepth 100000
namespace C62
open PySem PySem.Spec PyProof.Rows L2 Loc RZ
/-! ### the trees of the program -/
section
variable {P : Program} {w : World} {K : PySem.W.Frag} {mg : Str → Option Value} {base : Heap}
theorem base_first (X : Facts K mg) : FnOk P w K mg base CX0 23 X.ufirst_marks X.vfirst_marks ["row"] (spFirst K 20) := ok_first (m := 20) X.ffirst_marks
    { A := X.fis_run, C := X.fis_block, X := X.ftext_of, F1 := X.ffirst_mark, F2 := X.ffirst_unlike, F3 := X.fcode_at, gA := X.gis_run, gC := X.gis_block, gX := X.gtext_of, gF1 := X.gfirst_mark, gF2 := X.gfirst_unlike, gF3 := X.gcode_at, bA := X.bis_run, bC := X.bis_block, bX := X.btext_of, bF1 := X.bfirst_mark, bF2 := X.bfirst_unlike, bF3 := X.bcode_at,
      SIGNS := X.SIGNS, ENDED := X.ENDED, len := X.len, tuple := X.tuple, range := X.range, isinstance := X.isinstance, str := X.str }
theorem base_peaks (X : Facts K mg) : FnOk P w K mg base CX0 25 X.upeaks X.vpeaks ["row"] (spPeaks K 20) := by
  have G1 : FnOk P w K mg base CX0 2 X.unext_marks X.vnext_marks ["some"] (spNext K) := ok_next X.fnext_marks X.fnext_mark X.gnext_mark X.bnext_mark X.len X.range X.tuple
  have G3 := ok_marks (m := 20) X.fmarks (base_first X) X.ffirst_marks X.gfirst_marks X.bfirst_marks G1 X.fnext_marks X.gnext_marks X.bnext_marks X.range
  exact ok_peaks (m := 20) X.fpeaks G3 X.fmarks X.gmarks X.bmarks X.range X.len X.tuple
theorem base_cuts (X : Facts K mg) : FnOk P w K mg base CX0 26 X.ucuts X.vcuts ["row"] (spCuts K 20) :=
  ok_cuts (m := 20) X.fcuts (base_peaks X) X.fpeaks X.gpeaks X.bpeaks X.range X.len X.tuple X.zip X.list
theorem base_blocks (X : Facts K mg) : FnOk P w K mg base CX0 27 X.ublocks X.vblocks ["row"] (spBlocks K 20) :=
  ok_blocks (m := 20) X.fblocks (base_cuts X) X.fcuts X.gcuts X.bcuts X.len X.tuple X.zip
theorem base_rows (X : Facts K mg) : FnOk P w K mg base CX0 28 X.urows_of X.vrows_of ["runs"] (spRows K) :=
  ok_rows X.frows_of (base_blocks X) X.fblocks X.gblocks X.bblocks (ok_made X.fmade_runs X.frun_of X.grun_of X.brun_of X.len X.tuple) X.fmade_runs X.gmade_runs X.bmade_runs X.frun_of X.grun_of X.brun_of X.len X.tuple
theorem base_tree (X : Facts K mg) : FnOk P w K mg base CX0 29 X.utree_of X.vtree_of ["runs"] (spTreeL K) :=
  ok_treeL X.ftree_of (base_rows X) X.frows_of X.grows_of X.brows_of X.len
end
end C62

set_option Elab.async false
set_option linter.all false
set_option maxRecDepth 100000
namespace C62
open PySem PySem.Spec PyProof.Rows L2 Loc RZ
/-! ### runs as lists of their elements -/
def xp : List (Nd × Nat) → List Nd
  | [] => []
  | p :: r => List.replicate p.2 p.1 ++ xp r
theorem xp_app : ∀ (a b : List (Nd × Nat)), xp (a ++ b) = xp a ++ xp b
  | [], b => rfl
  | p :: r, b => by
    show xp (p :: (r ++ b)) = _
    rw [xp, xp, xp_app r b, List.append_assoc]
theorem xp_one (p : Nd × Nat) : xp [p] = List.replicate p.2 p.1 := by rw [xp, xp, List.append_nil]
theorem xp_len : ∀ gs : List (Nd × Nat), (xp gs).length = (gs.map (·.2)).sum
  | [] => rfl
  | p :: r => by rw [xp, List.length_append, List.length_replicate, xp_len r, List.map_cons, List.sum_cons]
def Rd (gs : List (Nd × Nat)) : Prop := (∀ p ∈ gs, 1 ≤ p.2) ∧ ∀ (i : Nat) p q, gs[i]? = some p → gs[i + 1]? = some q → p.1 ≠ q.1
theorem Rd.init {gs hs : List (Nd × Nat)} (h : Rd (gs ++ hs)) : Rd gs := ⟨fun p hp => h.1 p (List.mem_append_left _ hp), fun i p q hp hq => by
  have l2 : i + 1 < gs.length := (List.getElem?_eq_some_iff.mp hq).1
  exact h.2 i p q (by rw [List.getElem?_append_left (by omega)]; exact hp) (by rw [List.getElem?_append_left l2]; exact hq)⟩
theorem xp_last {gs : List (Nd × Nat)} {p : Nd × Nat} (h : 1 ≤ p.2) : (xp (gs ++ [p])).getLast? = some p.1 := by
  rw [xp_app, xp_one]
  obtain ⟨k, e⟩ : ∃ k, p.2 = k + 1 := ⟨p.2 - 1, by omega⟩
  rw [e, List.replicate_succ', ← List.append_assoc, List.getLast?_append]
  simp
theorem grp_xp : ∀ (k : Nat) (gs : List (Nd × Nat)), gs.length = k → Rd gs → grp (xp gs) = gs
  | 0, gs, e, _ => by
    rw [List.eq_nil_of_length_eq_zero e]
    rfl
  | k + 1, gs, e, h => by
    rcases List.eq_nil_or_concat gs with rfl | ⟨r, ⟨a, c⟩, rfl⟩
    · simp at e
    · rw [List.concat_eq_append] at *
      have c1 : 1 ≤ c := h.1 (a, c) (by simp)
      obtain ⟨j, rfl⟩ : ∃ j, c = j + 1 := ⟨c - 1, by omega⟩
      rw [xp_app, xp_one, grp_rep, grp_xp k r (by simpa using e) h.init]
      rcases List.eq_nil_or_concat r with rfl | ⟨r', p, rfl⟩
      · simp [xp]
      · rw [List.concat_eq_append] at *
        rw [xp_last (h.init.1 p (by simp))]
        intro z
        refine h.2 r'.length p (a, j + 1) ?_ ?_ (Option.some.inj z)
        · rw [List.getElem?_append_left (by simp), List.getElem?_append_right (Nat.le_refl _)]
          simp
        · rw [List.getElem?_append_right (by simp)]
          simp
theorem xp_stepG (acc : List (Nd × Nat)) (n : Nd) : xp (stepG acc n) = xp acc ++ [n] := by
  rcases List.eq_nil_or_concat acc with rfl | ⟨r, ⟨m, c⟩, rfl⟩
  · rw [stepG_ne (fun m c hm => by cases hm)]
    simp [xp]
  · rw [List.concat_eq_append]
    by_cases e : m = n
    · subst e
      rw [stepG_eq, xp_app, xp_app, xp_one, xp_one, List.append_assoc]
      show xp r ++ List.replicate (c + 1) m = _
      rw [List.replicate_succ']
    · rw [stepG_ne (fun m' c' hm => by
        rw [List.getLast?_append] at hm
        have : m = m' ∧ c = c' := by simpa using hm
        rw [← this.1]
        exact e), xp_app, xp_one]
      rfl
theorem xp_grp (ns : List Nd) : xp (grp ns) = ns := by
  suffices h : ∀ (k : Nat) (ns : List Nd), ns.length = k → xp (grp ns) = ns from h _ ns rfl
  intro k
  induction k with
  | zero =>
    intro ns e
    rw [List.eq_nil_of_length_eq_zero e]
    rfl
  | succ k ih =>
    intro ns e
    rcases List.eq_nil_or_concat ns with rfl | ⟨r, n, rfl⟩
    · simp at e
    · rw [List.concat_eq_append] at *
      rw [grp_app, xp_stepG, ih r (by simpa using e)]
theorem Giv.rd {gs : List (Nd × Nat)} (h : Giv gs) : Rd gs := ⟨fun p hp => (h.1 p hp).2.1, h.2⟩
theorem rd_grp (ns : List Nd) : Rd (grp ns) := ⟨fun p hp => (grp_foot ns p hp).2.1, grp_unl _ ns rfl⟩
theorem rd_one {gs hs : List (Nd × Nat)} (h : Rd gs) (k : Rd hs) (e : xp gs = xp hs) : gs = hs := by
  rw [← grp_xp _ gs rfl h, e, grp_xp _ hs rfl k]
theorem xp_mem : ∀ {gs : List (Nd × Nat)} {n : Nd}, n ∈ xp gs → ∃ p ∈ gs, p.1 = n
  | p :: r, n, h => by
    rw [xp] at h
    rcases List.mem_append.mp h with h | h
    · exact ⟨p, List.mem_cons_self, (List.eq_of_mem_replicate h).symm⟩
    · obtain ⟨q, hq, e⟩ := xp_mem h
      exact ⟨q, List.mem_cons_of_mem _ hq, e⟩
theorem mem_xp : ∀ {gs : List (Nd × Nat)} {p : Nd × Nat}, p ∈ gs → 1 ≤ p.2 → p.1 ∈ xp gs
  | q :: r, p, h, l => by
    rw [xp]
    rcases List.mem_cons.mp h with rfl | h
    · exact List.mem_append_left _ (by rw [List.mem_replicate]; exact ⟨by omega, rfl⟩)
    · exact List.mem_append_right _ (mem_xp h l)
/-! ### melting -/
open Classical in
noncomputable def stepM (acc : List (Nd × Nat)) (p : Nd × Nat) : List (Nd × Nat) :=
  match acc.getLast? with
  | some (m, c) => if m = p.1 then acc.dropLast ++ [(m, c + p.2)] else acc ++ [p]
  | none => acc ++ [p]
noncomputable def melt (gs : List (Nd × Nat)) : List (Nd × Nat) := gs.foldl stepM []
theorem melt_app (gs : List (Nd × Nat)) (p : Nd × Nat) : melt (gs ++ [p]) = stepM (melt gs) p := by
  unfold melt
  rw [List.foldl_append]
  rfl
theorem stepM_eq {r : List (Nd × Nat)} {m : Nd} {c : Nat} {p : Nd × Nat} (h : m = p.1) : stepM (r ++ [(m, c)]) p = r ++ [(m, c + p.2)] := by
  unfold stepM
  rw [List.getLast?_append]
  simp [h]
theorem stepM_ne {acc : List (Nd × Nat)} {p : Nd × Nat} (h : ∀ m c, acc.getLast? = some (m, c) → m ≠ p.1) : stepM acc p = acc ++ [p] := by
  unfold stepM
  split
  · rename_i m c e
    rw [if_neg (h m c e)]
  · rfl
theorem last_ne {r : List (Nd × Nat)} {m : Nd} {c : Nat} {n : Nd} (e : m ≠ n) : ∀ m' c', (r ++ [(m, c)]).getLast? = some (m', c') → m' ≠ n := fun m' c' hm => by
  rw [List.getLast?_append] at hm
  have : m = m' ∧ c = c' := by simpa using hm
  rw [← this.1]
  exact e
theorem xp_stepM (acc : List (Nd × Nat)) (p : Nd × Nat) : xp (stepM acc p) = xp acc ++ List.replicate p.2 p.1 := by
  rcases List.eq_nil_or_concat acc with rfl | ⟨r, ⟨m, c⟩, rfl⟩
  · rw [stepM_ne (fun m c hm => by cases hm)]
    simp [xp]
  · rw [List.concat_eq_append]
    by_cases e : m = p.1
    · rw [stepM_eq e, xp_app, xp_app, xp_one, xp_one, List.append_assoc, ← e]
      show xp r ++ List.replicate (c + p.2) m = _
      rw [List.replicate_append_replicate]
    · rw [stepM_ne (last_ne e), xp_app, xp_one]
theorem rd_snoc {gs : List (Nd × Nat)} {p : Nd × Nat} (h : Rd gs) (l : 1 ≤ p.2) (k : ∀ m c, gs.getLast? = some (m, c) → m ≠ p.1) : Rd (gs ++ [p]) := ⟨fun q hq => by
  rcases List.mem_append.mp hq with hq | hq
  · exact h.1 q hq
  · rw [List.mem_singleton.mp hq]
    exact l, fun i q q2 h1 h2 => by
  by_cases z : i + 1 < gs.length
  · rw [List.getElem?_append_left (by omega)] at h1
    rw [List.getElem?_append_left z] at h2
    exact h.2 i q q2 h1 h2
  · have l2 := (List.getElem?_eq_some_iff.mp h2).1
    rw [List.length_append, List.length_singleton] at l2
    rw [List.getElem?_append_left (by omega)] at h1
    rw [List.getElem?_append_right (by omega), show i + 1 - gs.length = 0 by omega] at h2
    have e2 : p = q2 := by simpa using h2
    rw [← e2]
    refine k q.1 q.2 ?_
    rw [List.getLast?_eq_getElem?, show gs.length - 1 = i by omega]
    exact h1⟩
theorem rd_bump {r : List (Nd × Nat)} {m : Nd} {c d : Nat} (h : Rd (r ++ [(m, c)])) : Rd (r ++ [(m, c + d)]) := rd_snoc h.init (Nat.le_trans (h.1 (m, c) (by simp)) (Nat.le_add_right _ _)) fun m' c' hm => by
  rcases List.eq_nil_or_concat r with rfl | ⟨r', p, rfl⟩
  · cases hm
  · rw [List.concat_eq_append] at *
    rw [List.getLast?_append] at hm
    have e : p = (m', c') := by simpa using hm
    have := h.2 r'.length p (m, c) (by rw [List.getElem?_append_left (by simp), List.getElem?_append_right (Nat.le_refl _)]; simp) (by rw [List.getElem?_append_right (by simp)]; simp)
    rw [e] at this
    exact this
theorem rd_stepM {acc : List (Nd × Nat)} {p : Nd × Nat} (h : Rd acc) (l : 1 ≤ p.2) : Rd (stepM acc p) := by
  rcases List.eq_nil_or_concat acc with rfl | ⟨r, ⟨m, c⟩, rfl⟩
  · rw [stepM_ne (fun m c hm => by cases hm)]
    exact rd_snoc h l fun m c hm => by cases hm
  · rw [List.concat_eq_append] at *
    by_cases e : m = p.1
    · rw [stepM_eq e]
      exact rd_bump h
    · rw [stepM_ne (last_ne e)]
      exact rd_snoc h l (last_ne e)
theorem melt_both : ∀ (k : Nat) (gs : List (Nd × Nat)), gs.length = k → (∀ p ∈ gs, 1 ≤ p.2) → Rd (melt gs) ∧ xp (melt gs) = xp gs ∧ (melt gs).length ≤ gs.length
  | 0, gs, e, _ => by
    rw [List.eq_nil_of_length_eq_zero e]
    exact ⟨⟨fun p hp => (nomatch hp), fun i p q hp _ => by simp [melt] at hp⟩, rfl, Nat.le_refl _⟩
  | k + 1, gs, e, h => by
    rcases List.eq_nil_or_concat gs with rfl | ⟨r, p, rfl⟩
    · simp at e
    · rw [List.concat_eq_append] at *
      obtain ⟨i1, i2, i3⟩ := melt_both k r (by simpa using e) fun q hq => h q (List.mem_append_left _ hq)
      rw [melt_app]
      refine ⟨rd_stepM i1 (h p (by simp)), by rw [xp_stepM, i2, xp_app, xp_one], ?_⟩
      rw [List.length_append]
      refine Nat.le_trans ?_ (Nat.add_le_add_right i3 _)
      generalize melt r = acc
      rcases List.eq_nil_or_concat acc with rfl | ⟨r', ⟨m, c⟩, rfl⟩
      · rw [stepM_ne (fun m c hm => by cases hm)]
        simp
      · rw [List.concat_eq_append]
        by_cases e : m = p.1
        · rw [stepM_eq e]
          simp
        · rw [stepM_ne (last_ne e)]
          simp
theorem melt_grp {gs : List (Nd × Nat)} (h : ∀ p ∈ gs, 1 ≤ p.2) : melt gs = grp (xp gs) := by
  obtain ⟨i1, i2, _⟩ := melt_both _ gs rfl h
  exact rd_one i1 (rd_grp _) (by rw [i2, xp_grp])
/-! ### stretches -/
def cutp (start stop : Nat) : Nat → List (Nd × Nat) → List (Nd × Nat)
  | _, [] => []
  | b, p :: r => if 0 < min (b + p.2) stop - max b start then (p.1, min (b + p.2) stop - max b start) :: cutp start stop (b + p.2) r else cutp start stop (b + p.2) r
theorem cutp_out {start stop : Nat} : ∀ (gs : List (Nd × Nat)) (b : Nat), stop ≤ b → cutp start stop b gs = []
  | [], b, _ => rfl
  | p :: r, b, h => by
    rw [cutp, if_neg (by omega), cutp_out r _ (by omega)]
theorem xp_cutp {start stop : Nat} : ∀ (gs : List (Nd × Nat)) (b : Nat), xp (cutp start stop b gs) = ((xp gs).take (stop - b)).drop (start - b)
  | [], b => by simp [cutp, xp]
  | p :: r, b => by
    have ih := xp_cutp (start := start) (stop := stop) r (b + p.2)
    have hd : List.replicate (min (b + p.2) stop - max b start) p.1 = ((List.replicate p.2 p.1).take (stop - b)).drop (start - b) := by
      rw [List.take_replicate, List.drop_replicate]
      congr 1
      omega
    have e2 : xp (cutp start stop b (p :: r)) = List.replicate (min (b + p.2) stop - max b start) p.1 ++ xp (cutp start stop (b + p.2) r) := by
      rw [cutp]
      split
      · rw [xp]
      · rename_i z
        rw [show min (b + p.2) stop - max b start = 0 by omega]
        rfl
    rw [e2, ih, hd, xp, List.take_append, List.drop_append, List.length_take, List.length_replicate]
    congr 1
    by_cases z : p.2 ≤ stop - b
    · rw [Nat.min_eq_right z]
      congr 1
      · omega
      · congr 1
        omega
    · rw [show stop - b - p.2 = 0 by omega, show stop - (b + p.2) = 0 by omega]
      simp
theorem cutp_head {start stop : Nat} : ∀ (gs : List (Nd × Nat)) (b : Nat), start ≤ b → (∀ p ∈ gs, 1 ≤ p.2) → ∀ q, (cutp start stop b gs)[0]? = some q → ∃ p, gs[0]? = some p ∧ p.1 = q.1
  | [], b, _, _, q, h => by simp [cutp] at h
  | p :: r, b, hb, h1, q, h => by
    have p1 := h1 p List.mem_cons_self
    rw [cutp] at h
    split at h
    · refine ⟨p, rfl, ?_⟩
      have : (p.1, min (b + p.2) stop - max b start) = q := by simpa using h
      rw [← this]
    · rw [cutp_out r _ (by omega)] at h
      simp at h
theorem rd_cutp {start stop : Nat} : ∀ (gs : List (Nd × Nat)) (b : Nat), Rd gs → Rd (cutp start stop b gs) ∧ (cutp start stop b gs).length ≤ gs.length ∧ (∀ q ∈ cutp start stop b gs, ∃ p ∈ gs, p.1 = q.1 ∧ q.2 ≤ p.2)
  | [], b, h => ⟨h, Nat.le_refl _, fun q hq => nomatch hq⟩
  | p :: r, b, h => by
    have hr : Rd r := ⟨fun q hq => h.1 q (List.mem_cons_of_mem _ hq), fun i q q2 a c => h.2 (i + 1) q q2 (by rw [List.getElem?_cons_succ]; exact a) (by rw [List.getElem?_cons_succ]; exact c)⟩
    obtain ⟨i1, i2, i3⟩ := rd_cutp (start := start) (stop := stop) r (b + p.2) hr
    have p1 := h.1 p List.mem_cons_self
    rw [cutp]
    split
    · rename_i z
      refine ⟨⟨fun q hq => ?_, fun i q q2 a c => ?_⟩, by simp; omega, fun q hq => ?_⟩
      · rcases List.mem_cons.mp hq with rfl | hq
        · exact z
        · exact i1.1 q hq
      · cases i with
        | zero =>
          rw [List.getElem?_cons_succ] at c
          have e1 : (p.1, min (b + p.2) stop - max b start) = q := by simpa using a
          obtain ⟨p2, e2, e3⟩ := cutp_head r (b + p.2) (by omega) hr.1 q2 c
          rw [← e1, ← e3]
          exact h.2 0 p p2 rfl (by rw [List.getElem?_cons_succ]; exact e2)
        | succ i => exact i1.2 i q q2 (by rw [List.getElem?_cons_succ] at a; exact a) (by rw [List.getElem?_cons_succ] at c; exact c)
      · rcases List.mem_cons.mp hq with rfl | hq
        · exact ⟨p, List.mem_cons_self, rfl, by show min (b + p.2) stop - max b start ≤ p.2; omega⟩
        · obtain ⟨p2, k1, k2⟩ := i3 q hq
          exact ⟨p2, List.mem_cons_of_mem _ k1, k2⟩
    · exact ⟨i1, by simp; omega, fun q hq => by
        obtain ⟨p2, k1, k2⟩ := i3 q hq
        exact ⟨p2, List.mem_cons_of_mem _ k1, k2⟩⟩
theorem cutp_grp {gs : List (Nd × Nat)} {start stop : Nat} (h : Rd gs) : cutp start stop 0 gs = grp (((xp gs).take stop).drop start) := by
  refine rd_one (rd_cutp gs 0 h).1 (rd_grp _) ?_
  rw [xp_cutp, xp_grp]
  rfl
section
variable {P : Program} {w : World} {K : PySem.W.Frag} {mg : Str → Option Value} {base : Heap}
def PksV (K : PySem.W.Frag) (H : Hp) (us : List V) (gss : List (List (Nd × Nat))) : Prop := us.length = gss.length ∧ ∀ (i : Nat) (v : V), us[i]? = some v → ∃ (b : Addr) (ws : List V) (gs : List (Nd × Nat)), gss[i]? = some gs ∧ v = .ref b ∧ SqT K H b ws ∧ PrsV K H ws gs
theorem PksV.nil {H : Hp} : PksV K H [] [] := ⟨rfl, fun i v h => by simp at h⟩
theorem PksV.cons {H : Hp} {b : Addr} {ws us : List V} {gs : List (Nd × Nat)} {gss : List (List (Nd × Nat))} (h : SqT K H b ws) (k : PrsV K H ws gs) (r : PksV K H us gss) : PksV K H (.ref b :: us) (gs :: gss) := ⟨by rw [List.length_cons, List.length_cons, r.1], fun i v hv => by
  cases i with
  | zero =>
    have : V.ref b = v := by simpa using hv
    exact ⟨b, ws, gs, rfl, this.symm, h, k⟩
  | succ i =>
    rw [List.getElem?_cons_succ] at hv
    obtain ⟨b', ws', gs', e1, e2⟩ := r.2 i v hv
    exact ⟨b', ws', gs', by rw [List.getElem?_cons_succ]; exact e1, e2⟩⟩
theorem PksV.up {H H' : Hp} {us : List V} {gss : List (List (Nd × Nat))} (h : PksV K H us gss) (e : Tups K H H') : PksV K H' us gss := ⟨h.1, fun i v hv => by
  obtain ⟨b, ws, gs, e1, e2, e3, e4⟩ := h.2 i v hv
  exact ⟨b, ws, gs, e1, e2, e _ _ e3, PrsV.up e e4⟩⟩
theorem scMelted : FnScope ["pieces", "made", "pairs", "node", "count"] ["pieces"] (defScope s_melted) := ⟨rfl, rfl, rfl, by decide +kernel, rfl, by decide +kernel, by decide +kernel⟩
def spMelted (K : PySem.W.Frag) : Sp := fun vs H Q _ => ∃ (a : Addr) (us : List V) (gss : List (List (Nd × Nat))) (lv : Nat), vs = [.ref a] ∧ SqT K H a us ∧ PksV K H us gss ∧ lv ≤ 20 ∧ (∀ gs ∈ gss, ∀ p ∈ gs, Ok p.1 lv ∧ 1 ≤ p.2) ∧ gss.flatten.length ≤ 10000 ∧
  ∀ H' p ws, Same H H' → H' p = some (.tup ws) → PrsV K H' ws (melt gss.flatten) → Q (.ref p) H'
theorem flat_take_more {gss : List (List (Nd × Nat))} {i : Nat} {gs : List (Nd × Nat)} (h : gss[i]? = some gs) : (gss.take (i + 1)).flatten = (gss.take i).flatten ++ gs := by
  rw [take_more h, List.flatten_append]
  simp
theorem flat_take_le (gss : List (List (Nd × Nat))) (i : Nat) : (gss.take i).flatten.length ≤ gss.flatten.length := by
  have := congrArg List.length (congrArg List.flatten (List.take_append_drop i gss))
  rw [List.flatten_append, List.length_append] at this
  omega
theorem ok_melted {f : Addr} {fd : FuncData} {k : Nat} (F : Fun K "melted" "melted" s_melted f fd) (mt : mg "tuple" = none) : FnOk P w K mg base CX0 (k + 1) f fd ["pieces"] (spMelted K) := by
  refine F.ok scMelted (fun vs H Q E h => ?_) (fun cdv A outer s H vs Q E hr h => ?_)
  · obtain ⟨a, us, gss, lv, rfl, _⟩ := h
    rfl
  · obtain ⟨a, us, gss, lv, rfl, hT, hP, hlv, hok, hlen, q⟩ := h
    refine ⟨_, pss_cons (ps_set (i := 1) scMelted.nd rfl (.inl rfl) (pe_lst pa_nil))
      (pss_cons (ps_for PassesOwn.never rfl (pi_tup (pv 0)) (pg_name (i := 2) scMelted.nd rfl (.inl rfl))
        (pss_one (ps_for PassesOwn.never rfl (pi_tup (pv 2)) (pg_tup rfl (pgs_cons (pg_name (i := 3) scMelted.nd rfl (.inl rfl)) (pgs_cons (pg_name (i := 4) scMelted.nd rfl (.inl rfl)) pgs_nil)))
          (pss_one (ps_if (PW.pt (pw_and (pt_truth (pv 1) (fun _ => rfl)) (pw_and1 (pt_cmpR (op_eqD hr.units) (pe_ix ix_tup (pe_ix ix_list (pv 1) (pe_un un_neg pe_int) (fun _ _ => rfl)) pe_int (fun _ _ => rfl)) (pv 3) (nomark _)))))
            (pss_one (ps_asg (pe_tup (pa_cons (pv 3) (pa_cons (pe_op op_add (pe_ix ix_tup (pe_ix ix_list (pv 1) (pe_un un_neg pe_int) (fun _ _ => rfl)) pe_int (fun _ _ => rfl)) (pv 4)) pa_nil))) (pg_sub (pv 1) (pe_un un_neg pe_int) set_list)))
            (pss_one (ps_expr (pe_bm PySem.F.plainAttrs_list PySem.F.slot_list_append PySem.F.type_list_append mt_append (pv 1) (pa_cons (pe_tup (pa_cons (pv 3) (pa_cons (pv 4) pa_nil))) pa_nil)))))))))
      (pss_one (ps_ret (pe_callTy call_tuple_of (by rfl) mt PyProof.Rows.boot_tuple (pa_cons (pv 1) pa_nil))))), ?_⟩
    refine ⟨(show 0 ≤ sizeLine from by decide), fun F0 hF => ?_⟩
    have s0 := sameN (o := .lst []) hF
    refine ⟨.ref a, rfl, a, rfl, ⟨us, sameT s0 hT⟩, ?_⟩
    refine for_tup (xs := us) (fun i σ H' => ∃ ws y2 y3 y4, σ = [some (.ref a), some (.ref F0), y2, y3, y4] ∧ H' F0 = some (.lst ws) ∧ PrsV K H' ws (melt (gss.take i).flatten) ∧ Same H H') ⟨[], none, none, none, rfl, upd_same, ?_, s0⟩ (fun i σ H' _ hp => ?_) (fun i x σ H1 hx hp => ?_) (fun σ H' hp => ?_)
    · rw [List.take_zero]
      exact .nil
    · obtain ⟨_, _, _, _, _, _, _, e⟩ := hp
      exact sameT e hT
    · obtain ⟨ws0, y2, y3, y4, rfl, e1, e2, s1⟩ := hp
      obtain ⟨b, xs, gs, hgi, rfl, hb, kP⟩ := (hP.up (.of s1)).2 i x hx
      have okg := hok gs (List.mem_of_getElem? hgi)
      have fm := flat_take_more hgi
      have fl1 := flat_take_le gss (i + 1)
      rw [fm, List.length_append] at fl1
      have okpre : ∀ p ∈ (gss.take i).flatten, Ok p.1 lv ∧ 1 ≤ p.2 := fun p hp => by
        obtain ⟨g, hg, hpg⟩ := List.mem_flatten.mp hp
        exact hok g (List.mem_of_mem_take hg) p hpg
      rw [fm]
      generalize (gss.take i).flatten = pre at e2 fl1 okpre
      have s1H := s1
      refine ⟨.ref b, rfl, b, rfl, ⟨xs, hb⟩, ?_⟩
      refine for_tup (xs := xs) (fun j σ H' => ∃ ws y3 y4, σ = [some (.ref a), some (.ref F0), some (.ref b), y3, y4] ∧ H' F0 = some (.lst ws) ∧ PrsV K H' ws (melt (pre ++ gs.take j)) ∧ Same H H' ∧ Tups K H1 H') ⟨ws0, y3, y4, rfl, e1, by rw [List.take_zero, List.append_nil]; exact e2, s1, .refl⟩ (fun j σ H' _ hp => ?_) (fun j x σ H2 hx hp => ?_) (fun σ H' hp => ?_)
      · obtain ⟨_, _, _, _, _, _, _, e⟩ := hp
        exact e _ _ hb
      · obtain ⟨ws, y3, y4, rfl, e1, e2, s1, t1'⟩ := hp
        obtain ⟨pr, ra, v, hpi, rfl, t1, t2⟩ := (PrsV.up t1' kP).get hx
        have hil := (List.getElem?_eq_some_iff.mp hpi).1
        have okn := (okg pr (List.mem_of_getElem? hpi)).1
        have okacc : ∀ p ∈ pre ++ gs.take j, Ok p.1 lv ∧ 1 ≤ p.2 := fun p hp => by
          rcases List.mem_append.mp hp with hp | hp
          · exact okpre p hp
          · exact okg p (List.mem_of_mem_take hp)
        obtain ⟨m1, m2, m3⟩ := melt_both _ (pre ++ gs.take j) rfl fun p hp => (okacc p hp).2
        have okm : ∀ p ∈ melt (pre ++ gs.take j), Ok p.1 lv := fun p hp => by
          have h1 := mem_xp hp (m1.1 p hp)
          rw [m2] at h1
          obtain ⟨q', hq, e⟩ := xp_mem h1
          rw [← e]
          exact (okacc q' hq).1
        have gm : melt (pre ++ gs.take (j + 1)) = stepM (melt (pre ++ gs.take j)) pr := by rw [take_more hpi, ← List.append_assoc, melt_app]
        rw [List.length_append, List.length_take] at m3
        have lw : ws.length < sizeLine := by
          rw [PrsV.len e2]
          exact line5 (by omega)
        rw [gm]
        generalize melt (pre ++ gs.take j) = acc at e2 okm
        refine ⟨ra, _, rfl, t1, rfl, v, _, rfl, _, [], rfl, rfl, ?_⟩
        refine ifs_any (fun bb H' => H2 = H' ∧ (bb = true → ∃ r c, acc = r ++ [(pr.1, c)]) ∧ (bb = false → ∀ m c, acc.getLast? = some (m, c) → m ≠ pr.1)) (fun bb H3 hS2 => ?_) (fun R hR => ?_)
        · obtain ⟨rfl, nb1, nb2⟩ := hS2
          cases bb with
          | true =>
            obtain ⟨r, c, er⟩ := nb1 rfl
            rw [er] at e2 ⊢
            obtain ⟨w1, ra2, u, rfl, k1, t3, t4⟩ := e2.split
            refine ⟨v, rfl, .ref F0, rfl, 1, rfl, F0, _, -1, .ref ra2, rfl, rfl, .inl (.inl e1), atI_last _ _, ra2, _, 1, .int c, rfl, rfl, t3, rfl, _, rfl, c, pr.2, rfl, rfl, (show 2 ≤ sizeLine from by decide), fun t ht => ?_⟩
            have s3 := sameN (o := .tup [v, .int ((c : Int) + (pr.2 : Int))]) ht
            have f3 := s3 _ _ e1
            have tt : Tups K (upd H2 t (.tup [v, .int ((c : Int) + (pr.2 : Int))])) (upd (upd H2 t (.tup [v, .int ((c : Int) + (pr.2 : Int))])) F0 (.lst ((w1 ++ [V.ref ra2]).set w1.length (V.ref t)))) := (But.set (p := F0)).tups f3
            refine ⟨.ref F0, rfl, 1, rfl, F0, w1 ++ [.ref ra2], -1, w1.length, rfl, rfl, f3, ?_, w1 ++ [.ref t], _, _, rfl, ?_, ?_, sameW (s1.trans s3) hF, (t1'.trans (.of s3)).trans tt⟩
            · rw [List.length_append]
              exact ixN_last
            · rw [upd_same, List.set_append_right _ _ (Nat.le_refl _)]
              simp
            · rw [stepM_eq rfl]
              refine PrsV.app (PrsV.up tt (PrsV.up (.of s3) k1)) (PrsV.one (p := (pr.1, c + pr.2)) (tt _ _ (.inl (.inl ?_))) ((t2.up (.of s3)).up tt))
              rw [upd_same]
              exact congrArg (fun z => some (HO.tup [v, z])) (int_congr (by show (c : Int) + (pr.2 : Int) = ((c + pr.2 : Nat) : Int); omega))
          | false =>
            have ne := stepM_ne (nb2 rfl)
            refine ⟨.ref F0, rfl, .inl ⟨rfl, _, .inl (.inl e1)⟩, v, rfl, _, rfl, (show 2 ≤ sizeLine from by decide), fun t ht => ?_⟩
            have s3 := sameN (o := .tup [v, .int (pr.2 : Int)]) ht
            have f3 := s3 _ _ e1
            have tt : Tups K (upd H2 t (.tup [v, .int (pr.2 : Int)])) (upd (upd H2 t (.tup [v, .int (pr.2 : Int)])) F0 (.lst (ws ++ [.ref t]))) := (But.set (p := F0)).tups f3
            refine ⟨F0, _, _, rfl, rfl, f3, lw, ws ++ [.ref t], _, _, rfl, upd_same, ?_, sameW (s1.trans s3) hF, (t1'.trans (.of s3)).trans tt⟩
            rw [ne]
            exact PrsV.app (PrsV.up tt (PrsV.up (.of s3) e2)) (PrsV.one (p := pr) (tt _ _ (.inl (.inl upd_same))) ((t2.up (.of s3)).up tt))
        · refine ⟨.ref F0, rfl, _, .inl ⟨_, .inl (.inl e1), rfl⟩, ?_⟩
          rcases List.eq_nil_or_concat acc with z | ⟨init, ⟨m, c⟩, z⟩
          · rw [z] at e2
            rw [show ws = [] from List.eq_nil_of_length_eq_zero (PrsV.len e2)]
            exact hR _ _ ⟨rfl, (fun z => nomatch z), fun _ m c hm => by rw [z] at hm; cases hm⟩
          · rw [List.concat_eq_append] at z
            rw [z] at e2
            obtain ⟨w1, ra2, u, rfl, k1, t3, t4⟩ := e2.split
            have okm2 : Ok m lv := okm (m, c) (by rw [z]; simp)
            rw [show (!(w1 ++ [V.ref ra2]).isEmpty) = true by simp]
            refine iteT ⟨.ref F0, rfl, 1, rfl, F0, _, -1, .ref ra2, rfl, rfl, .inl (.inl e1), atI_last _ _, ra2, _, 0, u, rfl, rfl, t3, rfl, v, rfl, _, _, t4, t2, shaped_dat okm2 hlv, shaped_dat okn hlv, _, rfl, hR _ _ ⟨rfl, fun eb => ?_, fun eb m' c' hm => ?_⟩⟩
            · have : m = pr.1 := (eqv_dat _ _).mp eb
              exact ⟨init, c, by rw [z, this]⟩
            · rw [z, List.getLast?_append] at hm
              have : m = m' ∧ c = c' := by simpa using hm
              rw [← this.1]
              intro eq
              rw [eqv_yes eq] at eb
              cases eb
      · obtain ⟨ws, y3, y4, rfl, e1, e2, s1, _⟩ := hp
        rw [PrsV.len kP, List.take_length] at e2
        exact ⟨ws, _, _, _, rfl, e1, e2, s1⟩
    · obtain ⟨ws, y2, y3, y4, rfl, e1, e2, s1⟩ := hp
      rw [hP.1, List.take_length] at e2
      exact ⟨.ref F0, rfl, F0, ws, rfl, .inl ⟨.inl (.inl e1), fun t nt => q _ t ws (s1.trans (sameN nt)) upd_same (PrsV.up (.of (sameN nt)) e2)⟩⟩
end
end C62

set_option Elab.async false
set_option linter.all false
set_option maxRecDepth 100000
namespace C62
open PySem PySem.Spec PyProof.Rows L2 Loc RZ
/-! ### marks of rows with an equal beginning, or an equal end -/
def fstp : List (List Nat) → List Nat
  | [] => []
  | c :: t => fmt c t
theorem fmt_app (a : List Nat) : ∀ (x s : List (List Nat)) (c : List Nat), ∃ y, fmt a (x ++ c :: s) = y ++ fmt c s ∧ y.length = x.length + 1
  | [], s, c => ⟨[fmk a c], by rw [List.nil_append, fmt]; rfl, rfl⟩
  | b :: x, s, c => by
    obtain ⟨y, e, l⟩ := fmt_app b x s c
    exact ⟨fmk a b :: y, by rw [List.cons_append, fmt, e]; rfl, by rw [List.length_cons, l, List.length_cons]⟩
theorem fstp_len (s : List (List Nat)) : (fstp s).length = s.length - 1 := by
  cases s with
  | nil => rfl
  | cons c t => rw [fstp, fmt_length, List.length_cons, Nat.add_sub_cancel]
theorem fms_end (x s : List (List Nat)) : ∃ y, fms (x ++ s) = y ++ fstp s ∧ y.length = x.length + min 1 s.length := by
  cases s with
  | nil => exact ⟨fms x, by rw [List.append_nil, fstp, List.append_nil], by rw [fms_length]; rfl⟩
  | cons c t =>
    cases x with
    | nil => exact ⟨[codeAt c 0], rfl, by simp⟩
    | cons a x =>
      obtain ⟨y, e, l⟩ := fmt_app a x t c
      exact ⟨codeAt a 0 :: y, by rw [List.cons_append, fms, e]; rfl, by rw [List.length_cons, l, List.length_cons, List.length_cons]; omega⟩
theorem fmt_beg (a : List Nat) : ∀ (x s : List (List Nat)), ∃ z, fmt a (x ++ s) = fmt a x ++ z
  | [], s => ⟨fmt a s, rfl⟩
  | b :: x, s => by
    obtain ⟨z, e⟩ := fmt_beg b x s
    exact ⟨z, by rw [List.cons_append, fmt, e, fmt]; rfl⟩
theorem fms_beg (x s : List (List Nat)) : ∃ z, fms (x ++ s) = fms x ++ z := by
  cases x with
  | nil => exact ⟨fms s, rfl⟩
  | cons a x =>
    obtain ⟨z, e⟩ := fmt_beg a x s
    exact ⟨z, by rw [List.cons_append, fms, e, fms]; rfl⟩
theorem rd_beg : ∀ (i : Nat) (x s : List Nat), ∃ z, rd i (x ++ s) = rd i x ++ z
  | 0, x, s => ⟨s, rfl⟩
  | i + 1, x, s => by
    obtain ⟨z, e⟩ := rd_beg i x s
    obtain ⟨z', e'⟩ := M82.round_beg (rd i x) z
    exact ⟨z', by rw [rd, e, e', rd]⟩
theorem mrk_beg (x s : List Nd) : ∃ z, mrk (x ++ s) = mrk x ++ z := by
  obtain ⟨z, e⟩ := fms_beg (x.map cd) (s.map cd)
  obtain ⟨z', e'⟩ := rd_beg 4 (fms (x.map cd)) z
  exact ⟨z', by unfold mrk; rw [List.map_append, e, e']⟩
theorem rd_end : ∀ (i : Nat) (x s : List Nat), ∃ y w, rd i (x ++ s) = y ++ w ∧ y.length = x.length + min i s.length ∧ w.length = s.length - i ∧ ∀ x' : List Nat, ∃ y', rd i (x' ++ s) = y' ++ w ∧ y'.length = x'.length + min i s.length
  | 0, x, s => ⟨x, s, rfl, by omega, by omega, fun x' => ⟨x', rfl, by omega⟩⟩
  | i + 1, x, s => by
    obtain ⟨y, w, e, l, lw, k⟩ := rd_end i x s
    obtain ⟨y2, e2, l2⟩ := M82.round_end y w
    refine ⟨y2, M82.stp w, by rw [rd, e, e2], by omega, by rw [M82.stp_len, lw]; omega, fun x' => ?_⟩
    obtain ⟨y', e', l'⟩ := k x'
    obtain ⟨y3, e3, l3⟩ := M82.round_end y' w
    exact ⟨y3, by rw [rd, e', e3], by omega⟩
/-- from the sixth place of an equal end on, marks are equal -/
theorem mrk_end (x x' s : List Nd) (j : Nat) (hj : 5 ≤ j) : (mrk (x ++ s))[j + x.length]? = (mrk (x' ++ s))[j + x'.length]? := by
  obtain ⟨y, e, l⟩ := fms_end (x.map cd) (s.map cd)
  obtain ⟨y', e', l'⟩ := fms_end (x'.map cd) (s.map cd)
  obtain ⟨y2, w, e2, l2, lw, k⟩ := rd_end 4 y (fstp (s.map cd))
  obtain ⟨y3, e3, l3⟩ := k y'
  rw [fstp_len] at l2 l3 lw
  rw [List.length_map, List.length_map] at l l'
  rw [List.length_map] at l2 l3 lw
  unfold mrk
  rw [List.map_append, List.map_append, e, e', e2, e3]
  have b1 : y2.length ≤ j + x.length := by omega
  have b2 : y3.length ≤ j + x'.length := by omega
  rw [List.getElem?_append_right b1, List.getElem?_append_right b2]
  congr 1
  omega
/-! ### rows of copies: their blocks -/
section
/-- six nodes tell a mark -/
theorem mrk_loc {N : List Nd} {j : Nat} (h5 : 5 ≤ j) (hj : j < N.length) : (mrk N)[j]? = (mrk ((N.drop (j - 5)).take 6))[5]? := by
  have e : N = N.take (j - 5) ++ (N.drop (j - 5)).take 6 ++ N.drop (j + 1) := by
    have h1 : N.drop (j + 1) = (N.drop (j - 5)).drop 6 := by rw [List.drop_drop, show j - 5 + 6 = j + 1 by omega]
    rw [List.append_assoc, h1, List.take_append_drop, List.take_append_drop]
  have l1 : (N.take (j - 5)).length = j - 5 := by rw [List.length_take]; omega
  have l2 : ((N.drop (j - 5)).take 6).length = 6 := by rw [List.length_take, List.length_drop]; omega
  obtain ⟨z, ez⟩ := mrk_beg (N.take (j - 5) ++ (N.drop (j - 5)).take 6) (N.drop (j + 1))
  have k := mrk_end (N.take (j - 5)) [] ((N.drop (j - 5)).take 6) 5 (Nat.le_refl _)
  rw [l1, List.nil_append, List.length_nil, show 5 + (j - 5) = j by omega] at k
  rw [← k]
  have e2 := congrArg mrk e
  rw [ez] at e2
  rw [e2, List.getElem?_append_left (by rw [mrk_len, List.length_append, l1, l2]; omega)]
theorem mrk_shift {N ns : List Nd} {j g : Nat} (h5 : 5 ≤ j) (hj : j < ns.length) (hg : j + g < N.length) (e : ∀ k, j - 5 ≤ k → k ≤ j → N[k + g]? = ns[k]?) : (mrk N)[j + g]? = (mrk ns)[j]? := by
  rw [mrk_loc (by omega) hg, mrk_loc h5 hj]
  congr 2
  refine List.ext_getElem? fun i => ?_
  rw [List.getElem?_take, List.getElem?_take]
  split
  · rw [List.getElem?_drop, List.getElem?_drop, show j + g - 5 + i = (j - 5 + i) + g by omega]
    exact e _ (by omega) (by omega)
  · rfl
theorem pk_shift {N ns : List Nd} {j g : Nat} (h6 : 6 ≤ j) (hj : j + 1 < ns.length) (hg : j + 1 + g < N.length) (e : ∀ k, j - 6 ≤ k → k ≤ j + 1 → N[k + g]? = ns[k]?) : M10.pk (mrk N) (j + g) = M10.pk (mrk ns) j := by
  unfold M10.pk
  rw [show j + g - 1 = (j - 1) + g by omega, show j + g + 1 = (j + 1) + g by omega,
    mrk_shift (by omega) (by omega) (by omega) fun k h1 h2 => e k (by omega) (by omega), mrk_shift (by omega) (by omega) (by omega) fun k h1 h2 => e k (by omega) (by omega),
    mrk_shift (by omega) (by omega) (by omega) fun k h1 h2 => e k (by omega) (by omega)]
theorem mrk_pre {N ns : List Nd} {L j : Nat} (h : N.take L = ns.take L) (hj : j < L) : (mrk N)[j]? = (mrk ns)[j]? := by
  have key : ∀ M : List Nd, (mrk M)[j]? = (mrk (M.take L))[j]? := fun M => by
    obtain ⟨z, ez⟩ := mrk_beg (M.take L) (M.drop L)
    rw [List.take_append_drop] at ez
    rw [ez]
    rcases Nat.lt_or_ge j (M.take L).length with c | c
    · rw [List.getElem?_append_left (by rw [mrk_len]; exact c)]
    · have lz := congrArg List.length ez
      rw [List.length_append, mrk_len, mrk_len] at lz
      rw [List.length_take] at c lz
      have z0 : z = [] := List.eq_nil_of_length_eq_zero (by omega)
      rw [z0, List.append_nil]
  rw [key N, key ns, h]
theorem pk_pre {N ns : List Nd} {L j : Nat} (h : N.take L = ns.take L) (hj : j + 1 < L) : M10.pk (mrk N) j = M10.pk (mrk ns) j := by
  unfold M10.pk
  rw [mrk_pre h (show j - 1 < L by omega), mrk_pre h (show j < L by omega), mrk_pre h hj]
/-- the blocks of the nodes from b to e, with peaks between -/
def sgp (b : Nat) (inner : List Nat) (e : Nat) : List (Nat × Nat) := (M10.sts e b inner).flatMap M10.stz
def seg (N : List Nd) (b : Nat) (inner : List Nat) (e : Nat) : List Nd := (sgp b inner e).map fun z => Nd.blk (pce N z)
theorem sts_split (n : Nat) : ∀ (u : List Nat) (b t : Nat) (w : List Nat), M10.sts n b (u ++ t :: w) = M10.sts t b u ++ M10.sts n t w
  | [], b, t, w => rfl
  | x :: u, b, t, w => by
    rw [List.cons_append, M10.sts, M10.sts, sts_split n u x t w]
    rfl
theorem sgp_split (b : Nat) (u : List Nat) (t : Nat) (w : List Nat) (n : Nat) : sgp b (u ++ t :: w) n = sgp b u t ++ sgp t w n := by
  unfold sgp
  rw [sts_split, List.flatMap_append]
theorem seg_split (N : List Nd) (b : Nat) (u : List Nat) (t : Nat) (w : List Nat) (n : Nat) : seg N b (u ++ t :: w) n = seg N b u t ++ seg N t w n := by
  unfold seg
  rw [sgp_split, List.map_append]
theorem bks_seg (ns : List Nd) : bks ns = seg ns 0 (tops ns) ns.length := rfl
theorem pieces_sgp (ns : List Nd) : pieces ns = sgp 0 (tops ns) ns.length := rfl
theorem gap_pre {n t : Nat} {w : List Nat} : ∀ {u : List Nat} {b : Nat}, M10.Gap n b (u ++ t :: w) → M10.Gap t b u
  | [], b, h => h.1
  | x :: u, b, h => ⟨h.1, gap_pre h.2⟩
def sh (g : Nat) (z : Nat × Nat) : Nat × Nat := (z.1 + g, z.2 + g)
theorem str_sh (g : Nat) : ∀ d b, M10.str d (b + g) = (M10.str d b).map (sh g)
  | 0, b => rfl
  | 1, b => by
    show [(b + g, b + g + 1)] = [(b + g, b + 1 + g)]
    rw [Nat.add_right_comm]
  | 2, b => by
    show [(b + g, b + g + 2)] = [(b + g, b + 2 + g)]
    rw [Nat.add_right_comm]
  | 3, b => by
    show [(b + g, b + g + 3)] = [(b + g, b + 3 + g)]
    rw [Nat.add_right_comm]
  | d + 4, b => by
    rw [M10.str, M10.str, List.map_cons, ← str_sh g (d + 2) (b + 2), Nat.add_right_comm b g 2]
    rfl
theorem sgp_sh (g : Nat) : ∀ (inner : List Nat) (b e : Nat), sgp (b + g) (inner.map (· + g)) (e + g) = (sgp b inner e).map (sh g)
  | [], b, e => by
    show (M10.str (e + g - (b + g)) (b + g)) ++ [] = ((M10.str (e - b) b) ++ []).map (sh g)
    rw [List.append_nil, List.append_nil, str_sh, show e + g - (b + g) = e - b by omega]
  | t :: r, b, e => by
    have ih := sgp_sh g r t e
    unfold sgp at ih ⊢
    rw [List.map_cons, M10.sts, M10.sts, List.flatMap_cons, List.flatMap_cons, List.map_append, ih]
    congr 1
    show M10.str (t + g - (b + g)) (b + g) = (M10.str (t - b) b).map (sh g)
    rw [str_sh, show t + g - (b + g) = t - b by omega]
theorem cont_low : ∀ {r : List (Nat × Nat)} {b n : Nat}, M10.Cont b n r → ∀ z ∈ r, b ≤ z.1
  | [], _, _, _, z, hz => nomatch hz
  | y :: r, b, n, h, z, hz => by
    rcases List.mem_cons.mp hz with rfl | hz
    · exact Nat.le_of_eq h.1.symm
    · have := cont_low h.2.2.2 z hz
      have := h.2.1
      omega
theorem seg_sh {N ns : List Nd} {b e g : Nat} {inner : List Nat} (G : M10.Gap e b inner) (q : ∀ k, b ≤ k → k < e → N[k + g]? = ns[k]?) : seg N (b + g) (inner.map (· + g)) (e + g) = seg ns b inner e := by
  unfold seg
  rw [sgp_sh, List.map_map]
  have C : M10.Cont b e (sgp b inner e) := M10.sts_cont G
  refine List.map_congr_left fun z hz => ?_
  have l := cont_low C z hz
  have u := (C.bnd).2 z hz
  show Nd.blk (pce N (sh g z)) = Nd.blk (pce ns z)
  congr 1
  unfold pce sh
  refine List.ext_getElem? fun i => ?_
  rw [List.getElem?_drop, List.getElem?_drop, List.getElem?_take, List.getElem?_take]
  dsimp only
  by_cases c : z.1 + i < z.2
  · rw [if_pos (by omega), if_pos c, show z.1 + g + i = (z.1 + i) + g by omega]
    exact q _ (by omega) (by omega)
  · rw [if_neg (by omega), if_neg c]
/-- the peaks from a to b -/
def tin (N : List Nd) (a b : Nat) : List Nat := (List.range' a (b - a)).filter (M10.pk (mrk N))
theorem tops_tin (N : List Nd) : tops N = tin N 2 (N.length - 1) := by
  unfold tops M10.pks tin
  rw [mrk_len, show N.length - 1 - 2 = N.length - 3 by omega]
theorem tin_split {N : List Nd} {a b c : Nat} (h1 : a ≤ b) (h2 : b ≤ c) : tin N a c = tin N a b ++ tin N b c := by
  unfold tin
  rw [← List.filter_append, show c - a = (b - a) + (c - b) by omega, M82.range'_cut, show a + (b - a) = b by omega]
theorem tin_at {N : List Nd} {q c : Nat} (h : q < c) (p : M10.pk (mrk N) q = true) : tin N q c = q :: tin N (q + 1) c := by
  unfold tin
  rw [show c - q = (c - (q + 1)) + 1 by omega, List.range'_succ, List.filter_cons_of_pos p]
theorem tin_sh {N ns : List Nd} {a b g : Nat} (h : ∀ j, a ≤ j → j < b → M10.pk (mrk N) (j + g) = M10.pk (mrk ns) j) : tin N (a + g) (b + g) = (tin ns a b).map (· + g) := by
  unfold tin
  rw [show b + g - (a + g) = b - a by omega, M82.range'_shift, M82.filter_map_p]
  congr 1
  refine List.filter_congr fun j hj => ?_
  obtain ⟨i, hi, rfl⟩ := List.mem_range'.mp hj
  exact h _ (by omega) (by omega)
theorem tin_mem {N : List Nd} {a b j : Nat} (h : j ∈ tin N a b) : a ≤ j ∧ j < b ∧ M10.pk (mrk N) j = true := by
  obtain ⟨h1, h2⟩ := List.mem_filter.mp h
  obtain ⟨i, hi, rfl⟩ := List.mem_range'.mp h1
  exact ⟨by omega, by omega, h2⟩
/-! copies -/
def cop {α : Type} (i : Nat) (P : List α) : List α := (List.replicate i P).flatten
theorem cop_succ {α : Type} (i : Nat) (P : List α) : cop (i + 1) P = P ++ cop i P := by
  unfold cop
  rw [List.replicate_succ, List.flatten_cons]
theorem cop_add {α : Type} (P : List α) : ∀ i j : Nat, cop (i + j) P = cop i P ++ cop j P
  | 0, j => by rw [Nat.zero_add]; rfl
  | i + 1, j => by rw [Nat.add_right_comm, cop_succ, cop_add P i j, cop_succ, List.append_assoc]
theorem cop_len {α : Type} (P : List α) : ∀ i : Nat, (cop i P).length = i * P.length
  | 0 => by rw [Nat.zero_mul]; rfl
  | i + 1 => by rw [cop_succ, List.length_append, cop_len P i, Nat.succ_mul, Nat.add_comm]
theorem cop_map {α β : Type} (f : α → β) (P : List α) : ∀ i : Nat, (cop i P).map f = cop i (P.map f)
  | 0 => rfl
  | i + 1 => by rw [cop_succ, cop_succ, List.map_append, cop_map f P i]
theorem cop_mem {α : Type} {P : List α} {x : α} : ∀ {i : Nat}, x ∈ cop i P → x ∈ P
  | 0, h => nomatch h
  | i + 1, h => by
    rw [cop_succ] at h
    exact (List.mem_append.mp h).elim id cop_mem
/-- a row: its beginning, a period so many times, its end -/
def rpt (H P : List Nd) (m : Nat) (T : List Nd) : List Nd := H ++ cop m P ++ T
theorem rpt_len (H P : List Nd) (m : Nat) (T : List Nd) : (rpt H P m T).length = H.length + m * P.length + T.length := by
  unfold rpt
  rw [List.length_append, List.length_append, cop_len]
theorem rpt_take {H P T : List Nd} {m : Nat} (h : 6 ≤ m) : (rpt H P m T).take (H.length + 6 * P.length) = (rpt H P 6 T).take (H.length + 6 * P.length) := by
  have e : ∀ m, 6 ≤ m → (rpt H P m T).take (H.length + 6 * P.length) = H ++ cop 6 P := fun m h => by
    unfold rpt
    rw [show m = 6 + (m - 6) by omega, cop_add, ← List.append_assoc H, List.append_assoc (H ++ cop 6 P)]
    exact List.take_left' (by rw [List.length_append, cop_len])
  rw [e m h, e 6 (Nat.le_refl _)]
theorem rpt_far {H P T : List Nd} {m i k : Nat} (h : i + 6 ≤ m) (hk : H.length ≤ k) (c : i + 6 = m ∨ k < H.length + 6 * P.length) : (rpt H P m T)[k + i * P.length]? = (rpt H P 6 T)[k]? := by
  unfold rpt
  rw [show m = i + (6 + (m - 6 - i)) by omega, cop_add, cop_add, List.append_assoc H (cop 6 P) T, List.getElem?_append_right hk,
    show H ++ (cop i P ++ (cop 6 P ++ cop (m - 6 - i) P)) ++ T = (H ++ cop i P) ++ (cop 6 P ++ (cop (m - 6 - i) P ++ T)) by simp only [List.append_assoc],
    List.getElem?_append_right (by rw [List.length_append, cop_len]; omega), List.length_append, cop_len, show k + i * P.length - (H.length + i * P.length) = k - H.length by omega]
  rcases c with c | c
  · rw [show m - 6 - i = 0 by omega]
    rfl
  · rw [List.getElem?_append_left (by rw [cop_len]; omega), List.getElem?_append_left (by rw [cop_len]; omega)]
/-- within the copies -/
theorem rpt_in {H P T : List Nd} {k : Nat} (hk : H.length ≤ k) (c : k + P.length < H.length + 6 * P.length) : (rpt H P 6 T)[k + P.length]? = (rpt H P 6 T)[k]? := by
  have key : ∀ j, H.length ≤ j → j < H.length + 6 * P.length → (rpt H P 6 T)[j]? = (cop 6 P)[j - H.length]? := fun j h1 h2 => by
    unfold rpt
    rw [List.append_assoc, List.getElem?_append_right h1, List.getElem?_append_left (by rw [cop_len]; omega)]
  rw [key _ (by omega) c, key _ hk (by omega)]
  have e1 : cop 6 P = P ++ cop 5 P := cop_succ 5 P
  have e2 : cop 6 P = cop 5 P ++ P := by
    have := cop_add P 5 1
    rw [show cop 1 P = P by unfold cop; simp] at this
    exact this
  have l5 : (cop 5 P).length = 5 * P.length := cop_len P 5
  rw [show (cop 6 P)[k + P.length - H.length]? = (P ++ cop 5 P)[k + P.length - H.length]? by rw [← e1], List.getElem?_append_right (by omega), show k + P.length - H.length - P.length = k - H.length by omega,
    e2, List.getElem?_append_left (by omega)]
end
section
theorem sts_head (n b : Nat) (tops : List Nat) : ∃ e r, M10.sts n b tops = (b, e) :: r := by
  cases tops with
  | nil => exact ⟨_, _, rfl⟩
  | cons t r => exact ⟨_, _, rfl⟩
theorem str_head (d b : Nat) : ∃ e r, M10.str d b = (b, e) :: r := by
  match d with
  | 0 => exact ⟨_, _, rfl⟩
  | 1 => exact ⟨_, _, rfl⟩
  | 2 => exact ⟨_, _, rfl⟩
  | 3 => exact ⟨_, _, rfl⟩
  | d + 4 => exact ⟨_, _, rfl⟩
theorem sgp_head (b : Nat) (inner : List Nat) (e : Nat) : ∃ z r, sgp b inner e = z :: r ∧ z.1 = b := by
  unfold sgp
  obtain ⟨e1, r1, h1⟩ := sts_head e b inner
  rw [h1, List.flatMap_cons]
  unfold M10.stz
  obtain ⟨e2, r2, h2⟩ := str_head (e1 - b) b
  dsimp only
  rw [h2]
  exact ⟨_, _, rfl, rfl⟩
/-- what is known of the blocks of a row of copies -/
structure CutsOf (H P T : List Nd) (q : Nat) (A B C : List Nd) (pa pb pc : List (Nat × Nat)) : Prop where
  bk : bks (rpt H P 6 T) = A ++ B ++ C
  pcs : pieces (rpt H P 6 T) = pa ++ pb ++ pc
  la : A.length = pa.length
  lb : B.length = pb.length
  lc : C.length = pc.length
  qa : ∀ z ∈ pa, z.1 < q
  qb : ∀ z ∈ pb, z.1 < q + P.length
  hb : ∃ z r, pb = z :: r ∧ z.1 = q
  hc : ∃ z r, pc = z :: r ∧ z.1 = q + P.length
  sa : 2 * A.length ≤ q
  sb : 2 * B.length ≤ P.length
  sc : 2 * C.length + q + P.length ≤ (rpt H P 6 T).length
  many : ∀ m, 6 ≤ m → bks (rpt H P m T) = A ++ cop (m - 5) B ++ C
theorem copies_cut {H P T : List Nd} {q : Nat} (p2 : 2 ≤ P.length) (q1 : H.length + 6 ≤ q) (q2 : q < H.length + 6 + P.length) (pq : M10.pk (mrk (rpt H P 6 T)) q = true) : ∃ A B C pa pb pc, CutsOf H P T q A B C pa pb pc := by
  have ln := rpt_len H P 6 T
  generalize ens : rpt H P 6 T = ns at *
  have n2 : 2 ≤ ns.length := by omega
  -- the next peak, one copy on
  have pp : M10.pk (mrk ns) (q + P.length) = true := by
    rw [pk_shift (N := ns) (ns := ns) (j := q) (g := P.length) (by omega) (by omega) (by omega) fun k h1 h2 => by
      rw [← ens]
      exact rpt_in (by omega) (by omega)]
    exact pq
  have t6 : tops ns = tin ns 2 q ++ q :: (tin ns (q + 1) (q + P.length) ++ (q + P.length) :: tin ns (q + P.length + 1) (ns.length - 1)) := by
    rw [tops_tin, tin_split (b := q) (by omega) (by omega), tin_at (by omega) pq, tin_split (a := q + 1) (b := q + P.length) (by omega) (by omega), tin_at (q := q + P.length) (by omega) pp]
  have G := gap_row n2
  rw [t6] at G
  have GU := gap_pre G
  have G1 := M82.gap_at G
  have GV := gap_pre G1
  have GW := M82.gap_at G1
  have CU : M10.Cont 0 q (sgp 0 (tin ns 2 q) q) := M10.sts_cont GU
  have CV : M10.Cont q (q + P.length) (sgp q (tin ns (q + 1) (q + P.length)) (q + P.length)) := M10.sts_cont GV
  have CW : M10.Cont (q + P.length) ns.length (sgp (q + P.length) (tin ns (q + P.length + 1) (ns.length - 1)) ns.length) := M10.sts_cont GW
  refine ⟨seg ns 0 (tin ns 2 q) q, seg ns q (tin ns (q + 1) (q + P.length)) (q + P.length), seg ns (q + P.length) (tin ns (q + P.length + 1) (ns.length - 1)) ns.length,
    sgp 0 (tin ns 2 q) q, sgp q (tin ns (q + 1) (q + P.length)) (q + P.length), sgp (q + P.length) (tin ns (q + P.length + 1) (ns.length - 1)) ns.length, ?_⟩
  refine { bk := ?bk, pcs := ?pcs, la := List.length_map _, lb := List.length_map _, lc := List.length_map _, qa := fun z hz => ?qa, qb := fun z hz => ?qb, hb := sgp_head _ _ _, hc := sgp_head _ _ _, sa := ?sa, sb := ?sb, sc := ?sc, many := ?many }
  case bk => rw [ens, bks_seg, t6, seg_split, seg_split, List.append_assoc]
  case pcs => rw [ens, pieces_sgp, t6, sgp_split, sgp_split, List.append_assoc]
  case qa =>
    have := CU.bnd.2 z hz
    omega
  case qb =>
    have := CV.bnd.2 z hz
    omega
  case sa =>
    have := CU.len
    unfold seg
    rw [List.length_map]
    omega
  case sb =>
    have := CV.len
    unfold seg
    rw [List.length_map]
    omega
  case sc =>
    have := CW.len
    unfold seg
    rw [List.length_map, ens]
    omega
  case many =>
    intro m hm
    have lN := rpt_len H P m T
    have mp : m * P.length = (m - 6) * P.length + 6 * P.length := by rw [← Nat.add_mul, show m - 6 + 6 = m by omega]
    generalize eN : rpt H P m T = N at *
    -- nodes
    have far : ∀ i k, i + 6 ≤ m → H.length ≤ k → (i + 6 = m ∨ k < H.length + 6 * P.length) → N[k + i * P.length]? = ns[k]? := fun i k h1 h2 h3 => by
      rw [← eN, ← ens]
      exact rpt_far h1 h2 h3
    have pre : N.take (H.length + 6 * P.length) = ns.take (H.length + 6 * P.length) := by
      rw [← eN, ← ens]
      exact rpt_take hm
    have pre' : ∀ k, k < H.length + 6 * P.length → N[k]? = ns[k]? := fun k hk => by
      have : (N.take (H.length + 6 * P.length))[k]? = (ns.take (H.length + 6 * P.length))[k]? := by rw [pre]
      rw [List.getElem?_take, List.getElem?_take, if_pos hk, if_pos hk] at this
      exact this
    -- peaks
    have pkf : ∀ i j, i + 6 ≤ m → H.length + 6 ≤ j → (i + 6 = m ∨ j + 1 < H.length + 6 * P.length) → j + 1 < ns.length → M10.pk (mrk N) (j + i * P.length) = M10.pk (mrk ns) j := fun i j h1 h2 h3 h4 => by
      have im : i * P.length ≤ (m - 6) * P.length := Nat.mul_le_mul_right _ (by omega)
      rcases h3 with h3 | h3
      · have : i = m - 6 := by omega
        subst this
        exact pk_shift (by omega) h4 (by omega) fun k k1 k2 => far _ k h1 (by omega) (.inl h3)
      · exact pk_shift (by omega) h4 (by omega) fun k k1 k2 => far i k h1 (by omega) (.inr (by omega))
    -- from the i-th copy of the peak on
    have S : ∀ c i, c + i + 5 = m → M10.pk (mrk N) (q + i * P.length) = true ∧ seg N (q + i * P.length) (tin N (q + i * P.length + 1) (N.length - 1)) N.length = cop c (seg ns q (tin ns (q + 1) (q + P.length)) (q + P.length)) ++ seg ns (q + P.length) (tin ns (q + P.length + 1) (ns.length - 1)) ns.length := by
      intro c
      induction c with
      | zero =>
        intro i hi
        obtain ⟨d, rfl⟩ : ∃ d, i = d + 1 := ⟨i - 1, by omega⟩
        have hd : d + 6 = m := by omega
        have ed : q + (d + 1) * P.length = q + P.length + d * P.length := by rw [Nat.succ_mul]; omega
        have dm : d * P.length = (m - 6) * P.length := by rw [show d = m - 6 by omega]
        have eN2 : N.length = ns.length + d * P.length := by omega
        have eN3 : N.length - 1 = (ns.length - 1) + d * P.length := by omega
        rw [ed]
        refine ⟨?_, ?_⟩
        · rw [pkf d (q + P.length) (by omega) (by omega) (.inl hd) (by omega)]
          exact pp
        · rw [eN3, eN2, show q + P.length + d * P.length + 1 = (q + P.length + 1) + d * P.length by omega, tin_sh fun j h1 h2 => pkf d j (by omega) (by omega) (.inl hd) (by omega)]
          rw [seg_sh GW fun k h1 h2 => far d k (by omega) (by omega) (.inl hd)]
          rfl
      | succ c ih =>
        intro i hi
        obtain ⟨s1, s2⟩ := ih (i + 1) (by omega)
        have ei : q + (i + 1) * P.length = q + P.length + i * P.length := by rw [Nat.succ_mul]; omega
        rw [ei] at s1 s2
        have im : i * P.length ≤ (m - 6) * P.length := Nat.mul_le_mul_right _ (by omega)
        refine ⟨?_, ?_⟩
        · rw [pkf i q (by omega) q1 (.inr (by omega)) (by omega)]
          exact pq
        · rw [tin_split (a := q + i * P.length + 1) (b := q + P.length + i * P.length) (by omega) (by omega), tin_at (q := q + P.length + i * P.length) (by omega) s1, seg_split, s2,
            show q + i * P.length + 1 = (q + 1) + i * P.length by omega, tin_sh fun j h1 h2 => pkf i j (by omega) (by omega) (.inr (by omega)) (by omega),
            seg_sh GV fun k h1 h2 => far i k (by omega) (by omega) (.inr (by omega)), cop_succ, List.append_assoc]
    obtain ⟨s1, s2⟩ := S (m - 5) 0 (by omega)
    rw [Nat.zero_mul, Nat.add_zero] at s1 s2
    have eU : tin N 2 q = tin ns 2 q := by
      have := tin_sh (N := N) (ns := ns) (a := 2) (b := q) (g := 0) fun j h1 h2 => by
        rw [Nat.add_zero]
        exact pk_pre pre (by omega)
      rw [Nat.add_zero, Nat.add_zero] at this
      rw [this]
      simp
    have sU : seg N 0 (tin ns 2 q) q = seg ns 0 (tin ns 2 q) q := by
      have := seg_sh (N := N) (ns := ns) (g := 0) GU fun k h1 h2 => by
        rw [Nat.add_zero]
        exact pre' k (by omega)
      rw [Nat.add_zero, Nat.add_zero] at this
      rw [← this]
      simp
    rw [bks_seg, tops_tin, tin_split (b := q) (by omega) (by omega), tin_at (by omega) s1, seg_split, eU, sU, s2, List.append_assoc]
end
section
theorem fmt_small {M : Nat} : ∀ (a : List Nat) (l : List (List Nat)), a.length ≤ M → (∀ t ∈ l, t.length ≤ M ∧ ∀ c ∈ t, Sg c) → ∀ x ∈ fmt a l, x ≤ 16 * M + 14
  | a, [], _, _, x, hx => nomatch hx
  | a, b :: r, ha, h, x, hx => by
    rw [fmt] at hx
    rcases List.mem_cons.mp hx with rfl | hx
    · have h1 := cp_le a b
      have h2 := codeAt_le (h b List.mem_cons_self).2 (cp a b)
      unfold fmk
      omega
    · exact fmt_small b r (h b List.mem_cons_self).1 (fun t ht => h t (List.mem_cons_of_mem _ ht)) x hx
theorem fms_small {M : Nat} {l : List (List Nat)} (h : ∀ t ∈ l, t.length ≤ M ∧ ∀ c ∈ t, Sg c) : ∀ x ∈ fms l, x ≤ 16 * M + 14 := fun x hx => by
  cases l with
  | nil => cases hx
  | cons a r =>
    have e : fms (a :: r) = codeAt a 0 :: fmt a r := rfl
    rw [e] at hx
    rcases List.mem_cons.mp hx with rfl | hx
    · have := codeAt_le (h a List.mem_cons_self).2 0
      omega
    · exact fmt_small a r (h a List.mem_cons_self).1 (fun t ht => h t (List.mem_cons_of_mem _ ht)) x hx
theorem mrk_good {ns : List Nd} {l : Nat} (ok : OkAll ns l) (un : Unb ns) (hw : wide l ≤ 10000000) : M07.Unl (mrk ns) ∧ ∀ x ∈ mrk ns, x ≤ 5 := by
  have u0 : M07.Unl (fms (ns.map cd)) := fms_unl _ (cds_sgs ns) (unlT_of ok un)
  refine ⟨rd_unl 4 _ u0, fun x hx => ?_⟩
  refine M82.rounds_le u0 (fun y hy => ?_) x hx
  have := fms_small (M := 10000000) (fun t ht => by
    obtain ⟨n, hn, rfl⟩ := List.mem_map.mp ht
    have h1 := txt_len n l (ok.mem n hn)
    rw [← cd_len] at h1
    exact ⟨by omega, cd_sg n⟩) y hy
  omega
theorem least {p : Nat → Prop} : ∀ (n : Nat) (a : Nat), p (a + n) → ∃ q, a ≤ q ∧ q ≤ a + n ∧ p q ∧ ∀ j, a ≤ j → j < q → ¬ p j
  | 0, a, h => ⟨a, Nat.le_refl _, Nat.le_refl _, h, fun j h1 h2 => absurd h1 (by omega)⟩
  | n + 1, a, h => by
    by_cases c : p a
    · exact ⟨a, Nat.le_refl _, by omega, c, fun j h1 h2 => absurd h1 (by omega)⟩
    · obtain ⟨q, h1, h2, h3, h4⟩ := least (p := p) n (a + 1) (by rw [show a + 1 + n = a + (n + 1) by omega]; exact h)
      refine ⟨q, by omega, by omega, h3, fun j j1 j2 => ?_⟩
      by_cases z : j = a
      · rw [z]; exact c
      · exact h4 j (by omega) j2
theorem copies_peak {H P T : List Nd} (p2 : 2 ≤ P.length) (u : M07.Unl (mrk (rpt H P 6 T))) (h5 : ∀ x ∈ mrk (rpt H P 6 T), x ≤ 5) : ∃ q, H.length + 6 ≤ q ∧ q < H.length + 6 + P.length ∧ M10.pk (mrk (rpt H P 6 T)) q = true ∧
    ∀ j, H.length + 6 ≤ j → j < q → ¬ M10.pk (mrk (rpt H P 6 T)) j = true := by
  have ln := rpt_len H P 6 T
  have inn := fun k => @rpt_in H P T k
  generalize rpt H P 6 T = ns at *
  have some : ∃ j, H.length + 6 ≤ j ∧ j < H.length + 6 + P.length ∧ M10.pk (mrk ns) j = true := by
    by_cases c : P.length = 2
    · have sh1 : (mrk ns)[H.length + 5 + 2]? = (mrk ns)[H.length + 5]? := mrk_shift (by omega) (by omega) (by omega) fun k h1 h2 => by
        have := inn k (by omega) (by omega)
        rw [c] at this
        exact this
      have sh2 : (mrk ns)[H.length + 6 + 2]? = (mrk ns)[H.length + 6]? := mrk_shift (by omega) (by omega) (by omega) fun k h1 h2 => by
        have := inn k (by omega) (by omega)
        rw [c] at this
        exact this
      obtain ⟨x, hx⟩ := get_of (l := mrk ns) (i := H.length + 5) (by rw [mrk_len]; omega)
      obtain ⟨y, hy⟩ := get_of (l := mrk ns) (i := H.length + 6) (by rw [mrk_len]; omega)
      have ne := M07.Unl.get u hx hy
      rw [hx] at sh1
      rw [hy] at sh2
      rcases Nat.lt_or_gt_of_ne ne with l | l
      · refine ⟨H.length + 6, by omega, by omega, ?_⟩
        unfold M10.pk
        rw [show H.length + 6 - 1 = H.length + 5 by omega, hx, hy, show H.length + 6 + 1 = H.length + 5 + 2 by omega, sh1]
        simp [l]
      · refine ⟨H.length + 7, by omega, by omega, ?_⟩
        unfold M10.pk
        rw [show H.length + 7 - 1 = H.length + 6 by omega, hy, show H.length + 7 = H.length + 5 + 2 by omega, sh1, show H.length + 5 + 2 + 1 = H.length + 6 + 2 by omega, sh2]
        simp [l]
    · obtain ⟨j, j1, j2, pj⟩ := M82.peak_in (ms := mrk ns) (b := H.length + 5) (by rw [mrk_len]; omega) u h5
      have down : ∀ c j, H.length + 6 ≤ j → j + c * P.length ≤ H.length + 15 → M10.pk (mrk ns) (j + c * P.length) = M10.pk (mrk ns) j := by
        intro c
        induction c with
        | zero => intro j _ _; rw [Nat.zero_mul, Nat.add_zero]
        | succ c ih =>
          intro j h1 h2
          rw [Nat.succ_mul] at h2 ⊢
          have := ih (j + P.length) (by omega) (by omega)
          rw [show j + (c * P.length + P.length) = j + P.length + c * P.length by omega, this]
          exact pk_shift (by omega) (by omega) (by omega) fun k k1 k2 => inn k (by omega) (by omega)
      have dm := Nat.div_add_mod (j - (H.length + 6)) P.length
      have lt := Nat.mod_lt (j - (H.length + 6)) (show P.length > 0 by omega)
      rw [Nat.mul_comm] at dm
      generalize (j - (H.length + 6)) / P.length = c' at dm
      generalize (j - (H.length + 6)) % P.length = r at dm lt
      have := down c' (H.length + 6 + r) (by omega) (by omega)
      rw [show H.length + 6 + r + c' * P.length = j by omega, pj] at this
      exact ⟨H.length + 6 + r, by omega, by omega, this.symm⟩
  obtain ⟨j, j1, j2, pj⟩ := some
  obtain ⟨q, h1, h2, h3, h4⟩ := least (p := fun j => M10.pk (mrk ns) j = true) (j - (H.length + 6)) (H.length + 6) (by rw [show H.length + 6 + (j - (H.length + 6)) = j by omega]; exact pj)
  exact ⟨q, h1, by omega, h3, h4⟩
end
end C62

set_option Elab.async false
set_option linter.all false
set_option maxRecDepth 100000
namespace C62
open PySem PySem.Spec PyProof.Rows L2 Loc RZ
/-! ### rows of copies, as pairs -/
section
theorem xp_cop (P : List (Nd × Nat)) : ∀ m : Nat, xp (cop m P) = cop m (xp P)
  | 0 => rfl
  | m + 1 => by rw [cop_succ, cop_succ, xp_app, xp_cop P m]
theorem rd_nil : Rd [] := ⟨(fun p hp => nomatch hp), fun i p q hp _ => by simp at hp⟩
theorem head_app {α : Type} {a b : List α} (h : a ≠ []) : (a ++ b).head? = a.head? := by
  cases a with
  | nil => exact absurd rfl h
  | cons x r => rfl
theorem last_app {α : Type} {a b : List α} (h : b ≠ []) : (a ++ b).getLast? = b.getLast? := by
  rw [List.getLast?_append]
  cases e : b.getLast? with
  | none => exact absurd (List.getLast?_eq_none_iff.mp e) h
  | some x => rfl
theorem rd_cat {a b : List (Nd × Nat)} (ha : Rd a) (hb : Rd b) (j : ∀ x y, a.getLast? = some x → b.head? = some y → x.1 ≠ y.1) : Rd (a ++ b) := by
  refine ⟨fun p hp => (List.mem_append.mp hp).elim (ha.1 p) (hb.1 p), fun i p q hp hq => ?_⟩
  rcases Nat.lt_trichotomy (i + 1) a.length with c | c | c
  · rw [List.getElem?_append_left (by omega)] at hp
    rw [List.getElem?_append_left c] at hq
    exact ha.2 i p q hp hq
  · rw [List.getElem?_append_left (by omega)] at hp
    rw [List.getElem?_append_right (by omega), c, Nat.sub_self] at hq
    refine j p q ?_ ?_
    · rw [List.getLast?_eq_getElem?, show a.length - 1 = i by omega]
      exact hp
    · rw [List.head?_eq_getElem?]
      exact hq
  · rw [List.getElem?_append_right (by omega)] at hp hq
    rw [show i + 1 - a.length = (i - a.length) + 1 by omega] at hq
    exact hb.2 _ p q hp hq
theorem rd_tail {a b : List (Nd × Nat)} (h : Rd (a ++ b)) : Rd b := ⟨fun p hp => h.1 p (List.mem_append_right _ hp), fun i p q hp hq => h.2 (a.length + i) p q
  (by rw [List.getElem?_append_right (by omega), show a.length + i - a.length = i by omega]; exact hp) (by rw [List.getElem?_append_right (by omega), show a.length + i + 1 - a.length = i + 1 by omega]; exact hq)⟩
theorem rd_meet {a b : List (Nd × Nat)} (h : Rd (a ++ b)) {x y : Nd × Nat} (hx : a.getLast? = some x) (hy : b.head? = some y) : x.1 ≠ y.1 := by
  rw [List.getLast?_eq_getElem?] at hx
  rw [List.head?_eq_getElem?] at hy
  have l := (List.getElem?_eq_some_iff.mp hx).1
  refine h.2 (a.length - 1) x y ?_ ?_
  · rw [List.getElem?_append_left l]
    exact hx
  · rw [List.getElem?_append_right (by omega), show a.length - 1 + 1 - a.length = 0 by omega]
    exact hy
theorem grp_head {ns : List Nd} {x : Nd × Nat} (h : (grp ns).head? = some x) : ns.head? = some x.1 := by
  have e := xp_grp ns
  have r := rd_grp ns
  cases g : grp ns with
  | nil => rw [g] at h; cases h
  | cons y r' =>
    rw [g] at h e r
    have : y = x := by simpa using h
    subst this
    have y1 := r.1 y List.mem_cons_self
    rw [← e, xp]
    obtain ⟨c, hc⟩ : ∃ c, y.2 = c + 1 := ⟨y.2 - 1, by omega⟩
    rw [hc, List.replicate_succ]
    rfl
theorem grp_last' {ns : List Nd} {x : Nd × Nat} (h : (grp ns).getLast? = some x) : ns.getLast? = some x.1 := grp_last ns x.1 x.2 h
theorem xp_head {p : Nd × Nat} {r : List (Nd × Nat)} (h : 1 ≤ p.2) : (xp (p :: r)).head? = some p.1 := by
  rw [xp]
  obtain ⟨c, hc⟩ : ∃ c, p.2 = c + 1 := ⟨p.2 - 1, by omega⟩
  rw [hc, List.replicate_succ]
  rfl
theorem cop_rep {α : Type} (x : α) (c : Nat) : ∀ m : Nat, cop m (List.replicate c x) = List.replicate (c * m) x
  | 0 => by rw [Nat.mul_zero]; rfl
  | m + 1 => by
    rw [cop_succ, cop_rep x c m, Nat.mul_succ, Nat.add_comm (c * m) c, List.replicate_append_replicate]
/-- the period begins between two unlike nodes -/
theorem turn {α : Type} (a b : List α) : ∀ m : Nat, cop (m + 1) (a ++ b) = a ++ cop m (b ++ a) ++ b
  | 0 => by
    rw [cop_succ]
    show a ++ b ++ [] = a ++ [] ++ b
    rw [List.append_nil, List.append_nil]
  | m + 1 => by
    rw [cop_succ, turn a b m, cop_succ]
    simp only [List.append_assoc]
theorem all_one {gs hs : List (Nd × Nat)} (h : ∀ p ∈ gs, 1 ≤ p.2) (k : ∀ p ∈ hs, 1 ≤ p.2) : ∀ p ∈ gs ++ hs, 1 ≤ p.2 := fun p hp => (List.mem_append.mp hp).elim (h p) (k p)
theorem len_xp {gs : List (Nd × Nat)} (h : ∀ p ∈ gs, 1 ≤ p.2) : gs.length ≤ (xp gs).length := by
  induction gs with
  | nil => exact Nat.zero_le _
  | cons p r ih =>
    have h1 := h p List.mem_cons_self
    have h2 := ih fun q hq => h q (List.mem_cons_of_mem _ hq)
    rw [xp, List.length_append, List.length_replicate, List.length_cons]
    omega
/-- a row whose period begins anew -/
theorem wr_many {h p t : List (Nd × Nat)} {m : Nat} {f : Nd × Nat} {o : List (Nd × Nat)} (hh : ∀ q ∈ h, 1 ≤ q.2) (hp : ∀ q ∈ p, 1 ≤ q.2) (ht : ∀ q ∈ t, 1 ≤ q.2) (m1 : 1 ≤ m) (e : melt p = f :: o) (one : o ≠ []) :
    Rd (melt (h ++ [f]) ++ cop (m - 1) (melt (o ++ [f])) ++ melt (o ++ t)) ∧ xp (melt (h ++ [f]) ++ cop (m - 1) (melt (o ++ [f])) ++ melt (o ++ t)) = xp (h ++ cop m p ++ t) ∧ 2 ≤ (melt (o ++ [f])).length ∧ (melt (o ++ [f])).length ≤ p.length ∧
      (melt (h ++ [f])).length + (melt (o ++ t)).length ≤ h.length + p.length + t.length ∧ (xp (melt (o ++ [f]))).length = (xp p).length ∧ Rd (melt (h ++ [f])) ∧ Rd (melt (o ++ [f])) ∧ Rd (melt (o ++ t)) := by
  obtain ⟨rp, xpp, lp⟩ := melt_both _ p rfl hp
  rw [e] at rp xpp lp
  have f1 := rp.1 f List.mem_cons_self
  have o1 : ∀ q ∈ o, 1 ≤ q.2 := fun q hq => rp.1 q (List.mem_cons_of_mem _ hq)
  have ff : ∀ q ∈ [f], 1 ≤ q.2 := fun q hq => by rw [List.mem_singleton.mp hq]; exact f1
  obtain ⟨r1, x1, l1⟩ := melt_both _ (h ++ [f]) rfl (all_one hh ff)
  obtain ⟨r2, x2, l2⟩ := melt_both _ (o ++ [f]) rfl (all_one o1 ff)
  obtain ⟨r3, x3, l3⟩ := melt_both _ (o ++ t) rfl (all_one o1 ht)
  obtain ⟨g, o', eo⟩ := List.exists_cons_of_ne_nil one
  have g1 := o1 g (by rw [eo]; exact List.mem_cons_self)
  have fg : f.1 ≠ g.1 := by
    rw [eo] at rp
    exact rp.2 0 f g rfl rfl
  have hd : ∀ {r : List (Nd × Nat)} {y : Nd × Nat}, (∀ q ∈ r, 1 ≤ q.2) → (melt (o ++ r)).head? = some y → y.1 = g.1 := fun {r y} hr hy => by
    rw [melt_grp (all_one o1 hr)] at hy
    have := grp_head hy
    rw [eo, List.cons_append, xp_head g1] at this
    exact (Option.some.inj this).symm
  have ls : ∀ {r : List (Nd × Nat)} {x : Nd × Nat}, (∀ q ∈ r, 1 ≤ q.2) → (melt (r ++ [f])).getLast? = some x → x.1 = f.1 := fun {r x} hr hx => by
    rw [melt_grp (all_one hr ff)] at hx
    have := grp_last' hx
    rw [xp_last f1] at this
    exact (Option.some.inj this).symm
  have two : 2 ≤ (melt (o ++ [f])).length := by
    match em : melt (o ++ [f]), x2, r2 with
    | [], x2, _ =>
      have : xp (o ++ [f]) = [] := x2.symm
      rw [xp_app] at this
      have h3 := mem_xp (gs := [f]) (p := f) List.mem_cons_self f1
      rw [(List.append_eq_nil_iff.mp this).2] at h3
      cases h3
    | [n], x2, _ =>
      have all : ∀ z ∈ xp (o ++ [f]), z = n.1 := fun z hz => by
        rw [← x2, xp_one] at hz
        exact (List.mem_replicate.mp hz).2
      have a1 := all f.1 (mem_xp (by simp) f1)
      have a2 := all g.1 (mem_xp (by rw [eo]; simp) g1)
      exact absurd (a1.trans a2.symm) fg
    | _ :: _ :: _, _, _ => simp
  -- copies
  have cops : ∀ c : Nat, Rd (cop c (melt (o ++ [f]))) ∧ (∀ x, (cop c (melt (o ++ [f]))).getLast? = some x → x.1 = f.1) ∧ ∀ y, (cop c (melt (o ++ [f])) ++ melt (o ++ t)).head? = some y → y.1 = g.1 := by
    intro c
    induction c with
    | zero => exact ⟨rd_nil, (fun x hx => nomatch hx), fun y hy => hd ht hy⟩
    | succ c ih =>
      obtain ⟨i1, i2, i3⟩ := ih
      have ne : melt (o ++ [f]) ≠ [] := fun z => by rw [z] at two; cases two
      have hhead : ∀ y, (cop c (melt (o ++ [f]))).head? = some y → y.1 = g.1 := fun y hy => by
        cases c with
        | zero => cases hy
        | succ c =>
          rw [cop_succ, head_app ne] at hy
          exact hd ff hy
      rw [cop_succ]
      refine ⟨rd_cat r2 i1 fun x y hx hy => ?_, fun x hx => ?_, fun y hy => ?_⟩
      · rw [ls o1 hx, hhead y hy]
        exact fg
      · cases c with
        | zero =>
          have : (melt (o ++ [f]) ++ []).getLast? = some x := hx
          rw [List.append_nil] at this
          exact ls o1 this
        | succ c =>
          have : cop (c + 1) (melt (o ++ [f])) ≠ [] := fun z => by
            have := congrArg List.length z
            rw [cop_len, Nat.succ_mul, List.length_nil] at this
            omega
          rw [last_app this] at hx
          exact i2 x hx
      · rw [List.append_assoc, head_app ne] at hy
        exact hd ff hy
  obtain ⟨c1, c2, c3⟩ := cops (m - 1)
  refine ⟨?_, ?_, two, ?_, ?_, ?_, r1, r2, r3⟩
  · rw [List.append_assoc]
    refine rd_cat r1 (rd_cat c1 r3 fun x y hx hy => ?_) fun x y hx hy => ?_
    · rw [c2 x hx, hd ht hy]
      exact fg
    · rw [ls hh hx, c3 y hy]
      exact fg
  · rw [xp_app, xp_app, x1, xp_cop, x2, x3, xp_app, xp_app, xp_app, xp_app, xp_app, xp_cop, ← xpp]
    have : xp (f :: o) = xp [f] ++ xp o := by rw [← xp_app]; rfl
    rw [this]
    obtain ⟨c, rfl⟩ : ∃ c, m = c + 1 := ⟨m - 1, by omega⟩
    rw [turn, Nat.add_sub_cancel]
    simp only [List.append_assoc]
  · rw [List.length_append, List.length_singleton] at l2
    rw [List.length_cons] at lp
    omega
  · rw [List.length_append, List.length_singleton] at l1
    rw [List.length_append] at l3
    rw [List.length_cons] at lp
    omega
  · rw [x2, ← xpp, xp_app]
    have : xp (f :: o) = xp [f] ++ xp o := by rw [← xp_app]; rfl
    rw [this, List.length_append, List.length_append, Nat.add_comm]
theorem wr_one {h p t : List (Nd × Nat)} {m : Nat} {f : Nd × Nat} (hh : ∀ q ∈ h, 1 ≤ q.2) (hp : ∀ q ∈ p, 1 ≤ q.2) (ht : ∀ q ∈ t, 1 ≤ q.2) (m1 : 1 ≤ m) (e : melt p = [f]) :
    Rd (melt (h ++ [(f.1, f.2 * m)] ++ t)) ∧ xp (melt (h ++ [(f.1, f.2 * m)] ++ t)) = xp (h ++ cop m p ++ t) ∧ (melt (h ++ [(f.1, f.2 * m)] ++ t)).length ≤ h.length + p.length + t.length ∧ 1 ≤ f.2 ∧ f.2 = (xp p).length ∧ ∀ q ∈ h ++ [(f.1, f.2 * m)] ++ t, 1 ≤ q.2 := by
  obtain ⟨rp, xpp, lp⟩ := melt_both _ p rfl hp
  rw [e] at rp xpp lp
  have f1 := rp.1 f List.mem_cons_self
  have fm : 1 ≤ f.2 * m := Nat.mul_pos f1 m1
  have all := all_one (all_one hh (hs := [(f.1, f.2 * m)]) fun q hq => by rw [List.mem_singleton.mp hq]; exact fm) ht
  obtain ⟨r1, x1, l1⟩ := melt_both _ (h ++ [(f.1, f.2 * m)] ++ t) rfl all
  refine ⟨r1, ?_, ?_, f1, ?_, all⟩
  · rw [x1, xp_app, xp_app, xp_app, xp_app, xp_cop, ← xpp, xp_one, xp_one, cop_rep]
  · rw [List.length_append, List.length_append, List.length_singleton] at l1
    rw [List.length_singleton] at lp
    omega
  · rw [← xpp, xp_one, List.length_replicate]
end
end C62

set_option Elab.async false
set_option linter.all false
set_option maxRecDepth 100000
namespace C62
open PySem PySem.Spec PyProof.Rows L2 Loc RZ
section
theorem cnt_xp {gs : List (Nd × Nat)} {p : Nd × Nat} (h : p ∈ gs) : p.2 ≤ (xp gs).length := by
  induction gs with
  | nil => exact nomatch h
  | cons q r ih =>
    rw [xp, List.length_append, List.length_replicate]
    rcases List.mem_cons.mp h with rfl | h
    · omega
    · have := ih h
      omega
theorem cop_sub {α : Type} {P : List α} {x : α} {m : Nat} (h : x ∈ P) (m1 : 1 ≤ m) : x ∈ cop m P := by
  obtain ⟨c, rfl⟩ : ∃ c, m = c + 1 := ⟨m - 1, by omega⟩
  rw [cop_succ]
  exact List.mem_append_left _ h
/-- so many copies, another number of them -/
theorem rd_copies {h p t : List (Nd × Nat)} {m : Nat} (r : Rd (h ++ cop m p ++ t)) (m2 : 2 ≤ m) (ne : p ≠ []) : ∀ c : Nat, 1 ≤ c → Rd (h ++ cop c p ++ t) := by
  obtain ⟨d, rfl⟩ : ∃ d, m = d + 2 := ⟨m - 2, by omega⟩
  have ra : Rd (h ++ (p ++ (p ++ (cop d p ++ t)))) := by
    rw [cop_succ, cop_succ] at r
    simpa only [List.append_assoc] using r
  have rb : Rd ((h ++ cop (d + 1) p) ++ (p ++ t)) := by
    rw [cop_add p (d + 1) 1, show cop 1 p = p by unfold cop; simp] at r
    simpa only [List.append_assoc] using r
  have rpt := rd_tail rb
  have rpp := rd_tail ra
  have rp : Rd p := rpt.init
  have rt := rd_tail rpt
  have rh := ra.init
  have jhp : ∀ x y, h.getLast? = some x → p.head? = some y → x.1 ≠ y.1 := fun x y hx hy => rd_meet ra hx (by rw [head_app ne]; exact hy)
  have jpp : ∀ x y, p.getLast? = some x → p.head? = some y → x.1 ≠ y.1 := fun x y hx hy => rd_meet rpp hx (by rw [head_app ne]; exact hy)
  have jpt : ∀ x y, p.getLast? = some x → t.head? = some y → x.1 ≠ y.1 := fun x y hx hy => rd_meet rpt hx hy
  have cne : ∀ c, cop (c + 1) p ≠ [] := fun c z => by
    have := congrArg List.length z
    rw [cop_len, Nat.succ_mul, List.length_nil] at this
    have : 1 ≤ p.length := List.length_pos_iff.mpr ne
    omega
  have key : ∀ c, Rd (cop (c + 1) p ++ t) ∧ (cop (c + 1) p ++ t).head? = p.head? := by
    intro c
    induction c with
    | zero =>
      rw [show cop (0 + 1) p = p by unfold cop; simp]
      exact ⟨rpt, head_app ne⟩
    | succ c ih =>
      obtain ⟨i1, i2⟩ := ih
      rw [cop_succ, List.append_assoc]
      exact ⟨rd_cat rp i1 fun x y hx hy => jpp x y hx (by rw [← i2]; exact hy), head_app ne⟩
  intro c hc
  obtain ⟨e, rfl⟩ : ∃ e, c = e + 1 := ⟨c - 1, by omega⟩
  obtain ⟨k1, k2⟩ := key e
  rw [List.append_assoc]
  exact rd_cat rh k1 fun x y hx hy => jhp x y hx (by rw [← k2]; exact hy)
/-- where the repeating stands: a row of level k -/
structure St (r0 : List Nd) (k : Nat) (h p : List (Nd × Nat)) (m : Nat) (t : List (Nd × Nat)) : Prop where
  rd : Rd (h ++ cop m p ++ t)
  ones : ∀ q ∈ h ++ p ++ t, 1 ≤ q.2
  row : (h ++ cop m p ++ t).map mkRun = nx k r0
  some : h ++ cop m p ++ t ≠ []
  ok : ∀ q ∈ h ++ p ++ t, Ok q.1 k ∧ q.1.isRun = false
  cnt : ∀ q ∈ h ++ p ++ t, q.2 ≤ 10 ^ 60
  szT : (h.length + t.length) * 2 ^ k ≤ 40 + 240 * k
  szP : p.length * 2 ^ k ≤ 40
  two : m = 0 ∨ 2 ≤ p.length
  big : (xp (h ++ cop m p ++ t)).length ≤ 10 ^ 60
  up : ∀ j, j < k → 1 < (nx j r0).length
  k5 : k ≤ 5
/-- what _with_runs makes -/
def WrR (h p : List (Nd × Nat)) (m : Nat) (t h' p' : List (Nd × Nat)) (m' : Nat) (t' : List (Nd × Nat)) : Prop :=
  (∃ f, melt p = [f] ∧ h' = melt (h ++ [(f.1, f.2 * m)] ++ t) ∧ p' = [] ∧ m' = 0 ∧ t' = []) ∨
  (∃ f o, melt p = f :: o ∧ o ≠ [] ∧ h' = melt (h ++ [f]) ∧ p' = melt (o ++ [f]) ∧ m' = m - 1 ∧ t' = melt (o ++ t))
theorem melt_sub {gs : List (Nd × Nat)} (h : ∀ q ∈ gs, 1 ≤ q.2) {q : Nd × Nat} (hq : q ∈ melt gs) : ∃ p ∈ gs, p.1 = q.1 := by
  obtain ⟨r, x, _⟩ := melt_both _ gs rfl h
  have := mem_xp hq (r.1 q hq)
  rw [x] at this
  exact xp_mem this
theorem wr_st {r0 : List Nd} {k : Nat} {h p t h' p' t' : List (Nd × Nat)} {m m' : Nat} {X : List Nd} (hh : ∀ q ∈ h ++ p ++ t, 1 ≤ q.2) (ne : p ≠ []) (m1 : 1 ≤ m) (ok : ∀ q ∈ h ++ p ++ t, Ok q.1 k ∧ q.1.isRun = false)
    (ex : xp (h ++ cop m p ++ t) = X) (row : (grp X).map mkRun = nx k r0) (big : X.length ≤ 10 ^ 60) (bigp : (xp p).length ≤ 10 ^ 60) (sT : (h.length + p.length + t.length) * 2 ^ k ≤ 40 + 240 * k) (sP : p.length * 2 ^ k ≤ 40)
    (up : ∀ j, j < k → 1 < (nx j r0).length) (k5 : k ≤ 5) (w : WrR h p m t h' p' m' t') : St r0 k h' p' m' t' := by
  have oh : ∀ q ∈ h, 1 ≤ q.2 := fun q hq => hh q (by simp [hq])
  have op : ∀ q ∈ p, 1 ≤ q.2 := fun q hq => hh q (by simp [hq])
  have ot : ∀ q ∈ t, 1 ≤ q.2 := fun q hq => hh q (by simp [hq])
  have okh : ∀ q ∈ h, Ok q.1 k ∧ q.1.isRun = false := fun q hq => ok q (by simp [hq])
  have okp : ∀ q ∈ p, Ok q.1 k ∧ q.1.isRun = false := fun q hq => ok q (by simp [hq])
  have okt : ∀ q ∈ t, Ok q.1 k ∧ q.1.isRun = false := fun q hq => ok q (by simp [hq])
  have same : ∀ {g : List (Nd × Nat)}, Rd g → xp g = X → g.map mkRun = nx k r0 := fun {g} r e => by
    rw [← row, ← e, grp_xp _ g rfl r]
  have Xne : X ≠ [] := fun z => by
    rw [z] at ex
    have l := len_xp (gs := h ++ cop m p ++ t) fun q hq => by
      rcases List.mem_append.mp hq with hq | hq
      · rcases List.mem_append.mp hq with hq | hq
        · exact oh q hq
        · exact op q (cop_mem hq)
      · exact ot q hq
    rw [ex, List.length_append, List.length_append, cop_len] at l
    have p1 : 1 ≤ p.length := List.length_pos_iff.mpr ne
    have : 1 * 1 ≤ m * p.length := Nat.mul_le_mul m1 p1
    have l : h.length + m * p.length + t.length ≤ 0 := l
    omega
  rcases w with ⟨f, e, rfl, rfl, rfl, rfl⟩ | ⟨f, o, e, one, rfl, rfl, rfl, rfl⟩
  · obtain ⟨r1, x1, l1, f1, f2, all⟩ := wr_one oh op ot m1 e
    obtain ⟨pf, hpf, epf⟩ := melt_sub op (q := f) (by rw [e]; exact List.mem_cons_self)
    rw [ex] at x1
    have flat : ∀ g : List (Nd × Nat), g ++ cop 0 [] ++ [] = g := fun g => by
      show g ++ [] ++ [] = g
      rw [List.append_nil, List.append_nil]
    have flat' : ∀ g : List (Nd × Nat), g ++ [] ++ [] = g := fun g => by rw [List.append_nil, List.append_nil]
    refine { rd := by rw [flat]; exact r1, ones := by rw [flat']; exact r1.1, row := by rw [flat]; exact same r1 x1, some := ?_, ok := ?_, cnt := ?_, szT := ?_, szP := ?_, two := .inl rfl, big := by rw [flat, x1]; exact big, up := up, k5 := k5 }
    · rw [flat]
      intro z
      rw [z] at x1
      exact Xne x1.symm
    · rw [flat']
      intro q hq
      obtain ⟨y, hy, ey⟩ := melt_sub all hq
      rw [← ey]
      rcases List.mem_append.mp hy with hy | hy
      · rcases List.mem_append.mp hy with hy | hy
        · exact okh y hy
        · rw [List.mem_singleton.mp hy]
          show Ok f.1 k ∧ f.1.isRun = false
          rw [← epf]
          exact okp pf hpf
      · exact okt y hy
    · rw [flat']
      intro q hq
      have := cnt_xp hq
      rw [x1] at this
      exact Nat.le_trans this big
    · rw [List.length_nil, Nat.add_zero]
      exact Nat.le_trans (Nat.mul_le_mul_right _ l1) sT
    · rw [List.length_nil, Nat.zero_mul]
      exact Nat.zero_le _
  · obtain ⟨r1, x1, two, lp, l1, xpl, rh, rp, rt⟩ := wr_many oh op ot m1 e one
    rw [ex] at x1
    have okf : ∀ q ∈ f :: o, Ok q.1 k ∧ q.1.isRun = false := fun q hq => by
      obtain ⟨y, hy, ey⟩ := melt_sub op (q := q) (by rw [e]; exact hq)
      rw [← ey]
      exact okp y hy
    have of : ∀ q ∈ f :: o, 1 ≤ q.2 := by
      rw [← e]
      exact (melt_both _ p rfl op).1.1
    have o1 : ∀ q ∈ o, 1 ≤ q.2 := fun q hq => of q (List.mem_cons_of_mem _ hq)
    have f1 : ∀ q ∈ [f], 1 ≤ q.2 := fun q hq => by rw [List.mem_singleton.mp hq]; exact of f List.mem_cons_self
    have okm : ∀ {a b : List (Nd × Nat)}, (∀ q ∈ a, 1 ≤ q.2) → (∀ q ∈ b, 1 ≤ q.2) → (∀ q ∈ a, Ok q.1 k ∧ q.1.isRun = false) → (∀ q ∈ b, Ok q.1 k ∧ q.1.isRun = false) → ∀ q ∈ melt (a ++ b), Ok q.1 k ∧ q.1.isRun = false := fun {a b} ha hb ka kb q hq => by
      obtain ⟨y, hy, ey⟩ := melt_sub (all_one ha hb) hq
      rw [← ey]
      exact (List.mem_append.mp hy).elim (ka y) (kb y)
    have k1 : ∀ q ∈ [f], Ok q.1 k ∧ q.1.isRun = false := fun q hq => by rw [List.mem_singleton.mp hq]; exact okf f List.mem_cons_self
    have ko : ∀ q ∈ o, Ok q.1 k ∧ q.1.isRun = false := fun q hq => okf q (List.mem_cons_of_mem _ hq)
    have big1 : (xp (melt (h ++ [f]) ++ cop (m - 1) (melt (o ++ [f])) ++ melt (o ++ t))).length ≤ 10 ^ 60 := by rw [x1]; exact big
    have parts := big1
    rw [xp_app, xp_app, List.length_append, List.length_append] at parts
    refine { rd := r1, ones := fun q hq => ?_, row := same r1 x1, some := ?_, ok := fun q hq => ?_, cnt := fun q hq => ?_, szT := Nat.le_trans (Nat.mul_le_mul_right _ l1) sT, szP := Nat.le_trans (Nat.mul_le_mul_right _ lp) sP, two := .inr two, big := big1, up := up, k5 := k5 }
    · rcases List.mem_append.mp hq with hq | hq
      · exact (List.mem_append.mp hq).elim (rh.1 q) (rp.1 q)
      · exact rt.1 q hq
    · intro z
      rw [z] at x1
      exact Xne x1.symm
    · rcases List.mem_append.mp hq with hq | hq
      · rcases List.mem_append.mp hq with hq | hq
        · exact okm oh f1 okh k1 q hq
        · exact okm o1 f1 ko k1 q hq
      · exact okm o1 ot ko okt q hq
    · rcases List.mem_append.mp hq with hq | hq
      · rcases List.mem_append.mp hq with hq | hq
        · have := cnt_xp hq
          omega
        · have := cnt_xp hq
          omega
      · have := cnt_xp hq
        omega
/-- the row that is cut -/
theorem st_row {r0 : List Nd} {k : Nat} {h p t : List (Nd × Nat)} {m : Nat} (S : St r0 k h p m t) (m6 : 6 ≤ m) : 2 ≤ p.length ∧ k ≤ 4 ∧ OkAll ((h ++ cop 6 p ++ t).map mkRun) k ∧ Unb ((h ++ cop 6 p ++ t).map mkRun) ∧ (h ++ cop 6 p ++ t).length ≤ 1440 ∧
    rpt (h.map mkRun) (p.map mkRun) 6 (t.map mkRun) = (h ++ cop 6 p ++ t).map mkRun ∧ rpt (h.map mkRun) (p.map mkRun) m (t.map mkRun) = nx k r0 := by
  have p2 : 2 ≤ p.length := by
    rcases S.two with z | z
    · omega
    · exact z
  have ne : p ≠ [] := fun z => by rw [z] at p2; cases p2
  have k4 : k ≤ 4 := by
    rcases Nat.lt_or_ge 4 k with c | c
    · have e : 2 ^ 5 ≤ 2 ^ k := Nat.pow_le_pow_right (by decide) c
      have := Nat.mul_le_mul p2 e
      have := S.szP
      omega
    · exact c
  have r6 := rd_copies S.rd (by omega) ne 6 (by decide)
  have sub : ∀ q ∈ h ++ cop 6 p ++ t, q ∈ h ++ p ++ t := fun q hq => by
    rcases List.mem_append.mp hq with hq | hq
    · rcases List.mem_append.mp hq with hq | hq
      · simp [hq]
      · have := cop_mem hq
        simp [this]
    · simp [hq]
  have e : ∀ c, rpt (h.map mkRun) (p.map mkRun) c (t.map mkRun) = (h ++ cop c p ++ t).map mkRun := fun c => by
    unfold rpt
    rw [List.map_append, List.map_append, cop_map]
  refine ⟨p2, k4, OkAll.of fun x hx => ?_, unb_runs (fun q hq => (S.ok q (sub q hq)).2) r6.2, ?_, e 6, by rw [e m]; exact S.row⟩
  · obtain ⟨q, hq, rfl⟩ := List.mem_map.mp hx
    obtain ⟨o, nr⟩ := S.ok q (sub q hq)
    have c1 := S.ones q (sub q hq)
    have c2 := S.cnt q (sub q hq)
    unfold mkRun
    split
    · exact o
    · unfold Ok
      exact ⟨by omega, c2, nr, o⟩
  · rw [List.length_append, List.length_append, cop_len]
    have p1 : 1 ≤ 2 ^ k := Nat.one_le_two_pow
    have a1 : (h.length + t.length) * 1 ≤ (h.length + t.length) * 2 ^ k := Nat.mul_le_mul_left _ p1
    have a2 : p.length * 1 ≤ p.length * 2 ^ k := Nat.mul_le_mul_left _ p1
    have := S.szT
    have := S.szP
    omega
def ones (A : List Nd) : List (Nd × Nat) := A.map fun n => (n, 1)
theorem xp_ones : ∀ A : List Nd, xp (ones A) = A
  | [] => rfl
  | n :: r => by
    have := xp_ones r
    unfold ones at this ⊢
    rw [List.map_cons, xp, this]
    rfl
theorem st_next {r0 : List Nd} {k : Nat} {h p t h' p' t' : List (Nd × Nat)} {m m' q : Nat} {A B C : List Nd} {pa pb pc : List (Nat × Nat)} (S : St r0 k h p m t) (m6 : 6 ≤ m)
    (U : CutsOf (h.map mkRun) (p.map mkRun) (t.map mkRun) q A B C pa pb pc) (w : WrR (ones A) (ones B) (m - 5) (ones C) h' p' m' t') : St r0 (k + 1) h' p' m' t' := by
  obtain ⟨p2, k4, ok6, un6, l6, e6, em⟩ := st_row S m6
  have n2 : 2 ≤ ((h ++ cop 6 p ++ t).map mkRun).length := by
    rw [List.length_map, List.length_append, List.length_append, cop_len]
    omega
  have okb : OkAll (bks ((h ++ cop 6 p ++ t).map mkRun)) (k + 1) := ok_pieces ok6 un6 n2
  have bk := U.bk
  rw [e6] at bk
  rw [bk] at okb
  have many := U.many m m6
  rw [em] at many
  have lm : (nx k r0).length = h.length + m * p.length + t.length := by
    rw [← em, rpt_len, List.length_map, List.length_map, List.length_map]
  have mp : 6 * 2 ≤ m * p.length := Nat.mul_le_mul m6 p2
  have lb : (bks (nx k r0)).length ≤ (nx k r0).length := by
    have : (bks (nx k r0)).length = (pieces (nx k r0)).length := List.length_map _
    rw [this]
    exact pieces_fst_len (by omega)
  have flen : (nx k r0).length ≤ 10 ^ 60 := by
    rw [← S.row, List.length_map]
    exact Nat.le_trans (len_xp S.rd.1) S.big
  have sizes : 2 * (A.length + B.length + C.length) ≤ h.length + 6 * p.length + t.length ∧ 2 * B.length ≤ p.length := by
    have a1 := U.sa
    have a2 := U.sb
    have a3 := U.sc
    rw [e6] at a3
    simp only [List.length_map, List.length_append, cop_len] at a2 a3
    omega
  have isb : ∀ x ∈ A ++ B ++ C, x.isRun = false := fun x hx => by
    rw [← bk] at hx
    obtain ⟨z, _, rfl⟩ := List.mem_map.mp hx
    rfl
  have mem : ∀ y ∈ ones A ++ ones B ++ ones C, y.2 = 1 ∧ y.1 ∈ A ++ B ++ C := fun y hy => by
    have : y ∈ (A ++ B ++ C).map fun n => (n, 1) := by
      rw [List.map_append, List.map_append]
      exact hy
    obtain ⟨n, hn, rfl⟩ := List.mem_map.mp this
    exact ⟨rfl, hn⟩
  have bne : ones B ≠ [] := fun z => by
    obtain ⟨z1, r1, e1, _⟩ := U.hb
    have := U.lb
    rw [e1, List.length_cons] at this
    have b0 : B = [] := by
      cases B with
      | nil => rfl
      | cons x r => cases z
    rw [b0] at this
    cases this
  have lo : ∀ D : List Nd, (ones D).length = D.length := fun D => List.length_map _
  have two : 2 ^ (k + 1) = 2 * 2 ^ k := by rw [Nat.pow_succ, Nat.mul_comm]
  refine wr_st (X := bks (nx k r0)) (fun y hy => Nat.le_of_eq (mem y hy).1.symm) bne (by omega) (fun y hy => ⟨okb.mem _ (mem y hy).2, isb _ (mem y hy).2⟩) ?_ rfl (Nat.le_trans lb flen) ?_ ?_ ?_ (fun j hj => ?_) (by omega) w
  · rw [xp_app, xp_app, xp_cop, xp_ones, xp_ones, xp_ones, many]
  · rw [xp_ones]
    have : B.length ≤ 1440 := by
      rw [List.length_append, List.length_append, cop_len] at l6
      omega
    exact Nat.le_trans this (by decide)
  · rw [lo, lo, lo, two, ← Nat.mul_assoc]
    have a1 : (A.length + B.length + C.length) * 2 * 2 ^ k ≤ (h.length + t.length + 6 * p.length) * 2 ^ k := Nat.mul_le_mul_right _ (by omega)
    rw [Nat.add_mul (h.length + t.length), Nat.mul_assoc 6] at a1
    have := S.szT
    have := S.szP
    omega
  · rw [lo, two, ← Nat.mul_assoc]
    have a1 : B.length * 2 * 2 ^ k ≤ p.length * 2 ^ k := Nat.mul_le_mul_right _ (by omega)
    have := S.szP
    omega
  · rcases Nat.lt_or_ge j k with c | c
    · exact S.up j c
    · have : j = k := by omega
      rw [this, lm]
      omega
end
end C62

set_option Elab.async false
set_option linter.all false
set_option maxRecDepth 100000
namespace C62
open PySem PySem.Spec PyProof.Rows L2 Loc RZ
/-! ### repeating -/
section
variable {P : Program} {w : World} {K : PySem.W.Frag} {mg : Str → Option Value} {base : Heap}
theorem slice_pre {H : Hp} {a : Addr} {xs : List V} {k : Nat} {Q : VK} (h : SqT K H a xs) (q : ∀ H' t, Same H H' → SqT K H' t (xs.take k) → Q (.ref t) H') : rSlA K (.ref a) none (some (k : Int)) H Q := by
  refine ⟨a, xs, rfl, h, fun hw => ?_, fun hw p hp => q _ p (sameN hp) (.inl (.inl ?_))⟩
  · have h2 := hw.2
    rw [HT.sIx_nat] at h2
    refine q H a (Same.refl H) ?_
    rw [List.take_of_length_le (by omega)]
    exact h
  · rw [upd_same, cut_to]
theorem slice_suf {H : Hp} {a : Addr} {xs : List V} {k : Nat} {Q : VK} (h : SqT K H a xs) (hk : k ≤ xs.length) (q : ∀ H' t, Same H H' → SqT K H' t (xs.drop k) → Q (.ref t) H') : rSlA K (.ref a) (some (k : Int)) none H Q := by
  refine ⟨a, xs, rfl, h, fun hw => ?_, fun hw p hp => q _ p (sameN hp) (.inl (.inl ?_))⟩
  · have h1 := hw.1
    rw [HT.sIx_nat, Nat.min_eq_left hk] at h1
    subst h1
    exact q H a (Same.refl H) h
  · rw [upd_same]
    unfold cutV
    rw [HT.sIx_nat, Nat.min_eq_left hk, show HT.sIx xs.length xs.length none = xs.length from rfl, List.take_of_length_le (by rw [List.length_drop]; exact Nat.le_refl _)]
/-- a state as a tuple of four -/
def StV (K : PySem.W.Frag) (H : Hp) (r : Addr) (h p : List (Nd × Nat)) (m : Nat) (t : List (Nd × Nat)) : Prop :=
  ∃ a b c wa wb wc, SqT K H r [.ref a, .ref b, .int (m : Nat), .ref c] ∧ SqT K H a wa ∧ PrsV K H wa h ∧ SqT K H b wb ∧ PrsV K H wb p ∧ SqT K H c wc ∧ PrsV K H wc t
abbrev nmWr : List Str := ["head", "period", "times", "tail", "first", "others", "node", "count"]
theorem scWr : FnScope nmWr ["head", "period", "times", "tail"] (defScope s__with_runs) := ⟨rfl, rfl, rfl, by decide +kernel, rfl, by decide +kernel, by decide +kernel⟩
def spWr (K : PySem.W.Frag) : Sp := fun vs H Q _ => ∃ (a b c : Addr) (wa wb wc : List V) (h p t : List (Nd × Nat)) (m l : Nat), vs = [.ref a, .ref b, .int (m : Nat), .ref c] ∧ SqT K H a wa ∧ PrsV K H wa h ∧ SqT K H b wb ∧ PrsV K H wb p ∧ SqT K H c wc ∧ PrsV K H wc t ∧
  l ≤ 20 ∧ (∀ q ∈ h ++ p ++ t, Ok q.1 l ∧ 1 ≤ q.2) ∧ p ≠ [] ∧ 1 ≤ m ∧ m ≤ 10 ^ 60 ∧ h.length ≤ 2000 ∧ p.length ≤ 2000 ∧ t.length ≤ 2000 ∧ (xp p).length ≤ 10 ^ 60 ∧
  ∀ H' r h' p' m' t', Same H H' → WrR h p m t h' p' m' t' → StV K H' r h' p' m' t' → Q (.ref r) H'
theorem nat_small {n : Nat} (h : n ≤ 10 ^ 60) : ((n : Nat) : Int).natAbs < 2 ^ 200 := by
  rw [Int.natAbs_natCast]
  exact Nat.lt_of_le_of_lt h (by decide +kernel)
theorem ok_wr (X : Facts K mg) : FnOk P w K mg base CX0 2 X.uwith_runs X.vwith_runs ["head", "period", "times", "tail"] (spWr K) := by
  have GM : FnOk P w K mg base CX0 1 X.umelted X.vmelted ["pieces"] (spMelted K) := ok_melted X.fmelted X.tuple
  refine X.fwith_runs.ok scWr (fun vs H Q E h => ?_) (fun cdv A outer s H vs Q E hr h => ?_)
  · obtain ⟨a, b, c, wa, wb, wc, h, p, t, m, l, rfl, _⟩ := h
    rfl
  · obtain ⟨a, b, c, wa, wb, wc, h, p, t, m, l, rfl, ha, ka, hb, kb, hc, kc, l20, ok, ne, m1, m60, lh, lp, lt, bp, q⟩ := h
    refine ⟨_, pss_cons (ps_set (i := 1) scWr.nd rfl (.inl rfl) (pe_call GM hr (by rfl) X.gmelted X.fmelted.kp X.bmelted .nil pass0 (pa_cons (pe_tup (pa_cons (pv 1) pa_nil)) pa_nil)))
      (pss_cons (ps_par (i := 4) (j := 5) (by rfl) scWr.nd rfl rfl (by decide) rfl rfl (pa_cons (pe_slice sl_tupA (pv 1) po_none (po_some pe_int)) (pa_cons (pe_slice sl_tupA (pv 1) (po_some pe_int) po_none) pa_nil)) (by rfl))
      (pss_cons (ps_if (pt_cmpR op_eq (pe_callB call_len_seq (by rfl) X.len PySem.boot_len (pa_cons (pv 5) pa_nil)) pe_int (nomark _))
          (pss_cons (ps_asg (pe_ix ix_tup (pv 1) pe_int (fun _ _ => rfl)) (pg_tup rfl (pgs_cons (pg_name (i := 6) scWr.nd rfl (.inl rfl)) (pgs_cons (pg_name (i := 7) scWr.nd rfl (.inl rfl)) pgs_nil))))
          (pss_one (ps_ret (pe_tup (pa_cons (pe_call GM hr (by rfl) X.gmelted X.fmelted.kp X.bmelted .nil pass0 (pa_cons (pe_tup (pa_cons (pv 0) (pa_cons (pe_tup (pa_cons (pe_tup (pa_cons (pv 6) (pa_cons (pe_op op_mulW (pv 7) (pv 2)) pa_nil))) pa_nil)) (pa_cons (pv 3) pa_nil)))) pa_nil))
            (pa_cons (pe_tup pa_nil) (pa_cons pe_int (pa_cons (pe_tup pa_nil) pa_nil)))))))) pss_nil)
      (pss_one (ps_ret (pe_tup (pa_cons (pe_call GM hr (by rfl) X.gmelted X.fmelted.kp X.bmelted .nil pass0 (pa_cons (pe_tup (pa_cons (pv 0) (pa_cons (pv 4) pa_nil))) pa_nil))
        (pa_cons (pe_call GM hr (by rfl) X.gmelted X.fmelted.kp X.bmelted .nil pass0 (pa_cons (pe_tup (pa_cons (pv 5) (pa_cons (pv 4) pa_nil))) pa_nil))
        (pa_cons (pe_op op_sub (pv 2) pe_int)
        (pa_cons (pe_call GM hr (by rfl) X.gmelted X.fmelted.kp X.bmelted .nil pass0 (pa_cons (pe_tup (pa_cons (pv 5) (pa_cons (pv 3) pa_nil))) pa_nil)) pa_nil))))))))), ?_⟩
    have okh : ∀ q ∈ h, Ok q.1 l ∧ 1 ≤ q.2 := fun q hq => ok q (by simp [hq])
    have okp : ∀ q ∈ p, Ok q.1 l ∧ 1 ≤ q.2 := fun q hq => ok q (by simp [hq])
    have okt : ∀ q ∈ t, Ok q.1 l ∧ 1 ≤ q.2 := fun q hq => ok q (by simp [hq])
    -- the period, melted
    refine ⟨_, rfl, (show 1 ≤ sizeLine from by decide), fun t1 n1 => ?_⟩
    have s1 := sameN (o := .tup [V.ref b]) n1
    refine ⟨t1, [.ref b], [p], l, rfl, .inl (.inl upd_same), .cons (sameT s1 hb) (PrsV.up (.of s1) kb) .nil, l20, fun gs hg => by rw [List.mem_singleton.mp hg]; exact okp, by simpa using (show p.length ≤ 10000 by omega), fun H2 b2 w2 s2 hb2 kb2 => ?_⟩
    have e1 : [p].flatten = p := by simp
    rw [e1] at kb2
    have s12 := s1.trans s2
    obtain ⟨mr, mx, ml⟩ := melt_both _ p rfl fun q hq => (okp q hq).2
    have okm : ∀ q ∈ melt p, Ok q.1 l ∧ 1 ≤ q.2 := fun q hq => by
      obtain ⟨y, hy, ey⟩ := melt_sub (fun q hq => (okp q hq).2) hq
      rw [← ey]
      exact ⟨(okp y hy).1, mr.1 q hq⟩
    have mne : melt p ≠ [] := fun z => by
      have := len_xp fun q hq => (okp q hq).2
      rw [← mx, z] at this
      have l1 : 1 ≤ p.length := List.length_pos_iff.mpr ne
      have : p.length ≤ 0 := this
      omega
    have hb2' : SqT K H2 b2 w2 := .inl (.inl hb2)
    have lw2 := PrsV.len kb2
    refine ⟨.ref b2, rfl, _, rfl, slice_pre (k := 1) hb2' fun H3 f3 s3 hf3 => ?_⟩
    refine ⟨.ref b2, rfl, _, rfl, ?_⟩
    dsimp only [tNoPart]
    refine slice_suf (k := 1) (sameT s3 hb2') (by rw [lw2]; exact List.length_pos_iff.mpr mne) fun H4 o4 s4 ho4 => ⟨_, _, rfl, ?_⟩
    have s24 := s3.trans s4
    have s14 := s12.trans s24
    refine ⟨.ref o4, rfl, o4, _, rfl, .inr ho4, rfl, _, rfl, ?_⟩
    rw [List.length_drop, lw2]
    obtain ⟨f, o, em⟩ := List.exists_cons_of_ne_nil mne
    have kb4 := PrsV.up (.of (K := K) s24) kb2
    have hb4 := sameT s24 hb2'
    have hf4 := sameT s4 hf3
    rw [em] at kb4 okm lw2
    obtain ⟨v0, wr, ew⟩ : ∃ v0 wr, w2 = v0 :: wr := by
      cases w2 with
      | nil => cases lw2
      | cons x r => exact ⟨x, r, rfl⟩
    subst ew
    have kd : DpAll K H4 (v0 :: wr) (pdat f :: o.map pdat) := kb4
    cases kd with
    | cons kf ko =>
    obtain ⟨fa, fu, rfl, ft, fk⟩ := PrsV.inv kf
    have ko' : PrsV K H4 wr o := ko
    rw [em, List.length_cons, Nat.add_sub_cancel]
    have ha4 := sameT s14 ha
    have ka4 := PrsV.up (.of (K := K) s14) ka
    have hc4 := sameT s14 hc
    have kc4 := PrsV.up (.of (K := K) s14) kc
    by_cases one : o = []
    · subst one
      rw [show decide (V.int ((([] : List (Nd × Nat)).length : Nat) : Int) = V.int 0) = true from rfl]
      have f2 : f.2 = (xp p).length := by rw [← mx, em, xp_one, List.length_replicate]
      refine iteT ⟨.ref b2, rfl, b2, _, 0, _, rfl, rfl, hb4, atI_nat (j := 0) rfl, fa, _, rfl, ft, rfl, fu, _, rfl, _, [], rfl, rfl, ?_⟩
      refine ⟨.ref a, rfl, _, rfl, _, rfl, _, rfl, _, _, rfl, rfl, wide_mul (nat_small (by rw [f2]; exact bp)) (nat_small m60) (by decide) (by decide) (by decide), (show 2 ≤ sizeLine from by decide), fun t5 n5 => ⟨(show 1 ≤ sizeLine from by decide), fun t6 n6 => ⟨.ref c, rfl, (show 3 ≤ sizeLine from by decide), fun t7 n7 => ?_⟩⟩⟩
      have s5 := sameN (o := .tup [fu, .int ((f.2 : Nat) * (m : Nat) : Int)]) n5
      have s6 := sameN (o := .tup [V.ref t5]) n6
      have s7 := sameN (o := .tup [V.ref a, V.ref t6, V.ref c]) n7
      have s67 := s6.trans s7
      have s57 := s5.trans s67
      refine ⟨t7, _, [h, [(f.1, f.2 * m)], t], l, rfl, .inl (.inl upd_same), .cons (sameT s57 ha4) (PrsV.up (.of s57) ka4) (.cons (sameT s7 (.inl (.inl upd_same))) (.one (p := (f.1, f.2 * m)) (sameT s67 (.inl (.inl ?_))) (fk.up (.of s57))) (.cons (sameT s57 hc4) (PrsV.up (.of s57) kc4) .nil)), l20, fun gs hg => ?_, ?_, fun H8 h8 w8 s8 hh8 kh8 => ?_⟩
      · rw [upd_same, Int.natCast_mul]
      · simp only [List.mem_cons, List.not_mem_nil, or_false] at hg
        rcases hg with rfl | rfl | rfl
        · exact okh
        · intro q hq
          rw [List.mem_singleton.mp hq]
          have := okm f List.mem_cons_self
          exact ⟨this.1, Nat.mul_pos this.2 m1⟩
        · exact okt
      · simp only [List.flatten_cons, List.flatten_nil, List.append_nil, List.length_append, List.length_singleton]
        omega
      · have ef : [h, [(f.1, f.2 * m)], t].flatten = h ++ [(f.1, f.2 * m)] ++ t := by simp
        rw [ef] at kh8
        refine ⟨(show 0 ≤ sizeLine from by decide), fun t9 n9 => ⟨(show 0 ≤ sizeLine from by decide), fun t10 n10 => ⟨(show 4 ≤ sizeLine from by decide), fun r nr => ?_⟩⟩⟩
        have s9 := sameN (o := .tup []) n9
        have s10 := sameN (o := .tup []) n10
        have sr := sameN (o := .tup [V.ref h8, V.ref t9, V.int 0, V.ref t10]) nr
        have s8r := s9.trans (s10.trans sr)
        refine q _ r _ [] 0 [] (s14.trans (s57.trans (s8.trans s8r))) (.inl ⟨f, em, rfl, rfl, rfl, rfl⟩) ⟨h8, t9, t10, w8, [], [], .inl (.inl upd_same), sameT s8r (.inl (.inl hh8)), PrsV.up (.of s8r) kh8, sameT (s10.trans sr) (.inl (.inl upd_same)), .nil, sameT sr (.inl (.inl upd_same)), .nil⟩
    · rw [decide_eq_false (show ¬ V.int (((o.length : Nat)) : Int) = V.int 0 from fun z => one (List.eq_nil_of_length_eq_zero (by have := V.int.inj z; omega)))]
      have okf : ∀ q ∈ [f], Ok q.1 l ∧ 1 ≤ q.2 := fun q hq => by rw [List.mem_singleton.mp hq]; exact okm f List.mem_cons_self
      have oko : ∀ q ∈ o, Ok q.1 l ∧ 1 ≤ q.2 := fun q hq => okm q (List.mem_cons_of_mem _ hq)
      have ho4' : SqT K H4 o4 wr := ho4
      have hf4' : SqT K H4 f3 [.ref fa] := hf4
      have kf4 : PrsV K H4 [.ref fa] [f] := .one ft fk
      rw [em, List.length_cons] at ml
      have two : ∀ {x y : List (Nd × Nat)}, (∀ q ∈ x, Ok q.1 l ∧ 1 ≤ q.2) → (∀ q ∈ y, Ok q.1 l ∧ 1 ≤ q.2) → ∀ gs ∈ [x, y], ∀ q ∈ gs, Ok q.1 l ∧ 1 ≤ q.2 := fun {x y} hx hy gs hg => by
        simp only [List.mem_cons, List.not_mem_nil, or_false] at hg
        rcases hg with rfl | rfl
        · exact hx
        · exact hy
      have len2 : ∀ {x y : List (Nd × Nat)}, x.length ≤ 2000 → y.length ≤ 2000 → [x, y].flatten.length ≤ 10000 := fun {x y} hx hy => by
        simp only [List.flatten_cons, List.flatten_nil, List.append_nil, List.length_append]
        omega
      have fl2 : ∀ x y : List (Nd × Nat), [x, y].flatten = x ++ y := fun x y => by simp
      refine iteF ⟨.ref a, rfl, .ref f3, rfl, (show 2 ≤ sizeLine from by decide), fun t5 n5 => ?_⟩
      have s5 := sameN (o := .tup [V.ref a, V.ref f3]) n5
      refine ⟨t5, _, [h, [f]], l, rfl, .inl (.inl upd_same), .cons (sameT s5 ha4) (PrsV.up (.of s5) ka4) (.cons (sameT s5 hf4') (PrsV.up (.of s5) kf4) .nil), l20, two okh okf, len2 lh (by simp), fun H6 h6 w6 s6 hh6 kh6 => ?_⟩
      rw [fl2] at kh6
      have s46 := s5.trans s6
      refine ⟨.ref o4, rfl, .ref f3, rfl, (show 2 ≤ sizeLine from by decide), fun t7 n7 => ?_⟩
      have s7 := sameN (o := .tup [V.ref o4, V.ref f3]) n7
      have s47 := s46.trans s7
      refine ⟨t7, _, [o, [f]], l, rfl, .inl (.inl upd_same), .cons (sameT s47 ho4') (PrsV.up (.of s47) ko') (.cons (sameT s47 hf4') (PrsV.up (.of s47) kf4) .nil), l20, two oko okf, len2 (by omega) (by simp), fun H8 h8 w8 s8 hh8 kh8 => ?_⟩
      rw [fl2] at kh8
      have s48 := s47.trans s8
      have s68 := s7.trans s8
      refine ⟨_, rfl, _, 1, rfl, rfl, .ref o4, rfl, .ref c, rfl, (show 2 ≤ sizeLine from by decide), fun t9 n9 => ?_⟩
      have s9 := sameN (o := .tup [V.ref o4, V.ref c]) n9
      have s49 := s48.trans s9
      refine ⟨t9, _, [o, t], l, rfl, .inl (.inl upd_same), .cons (sameT s49 ho4') (PrsV.up (.of s49) ko') (.cons (sameT s49 hc4) (PrsV.up (.of s49) kc4) .nil), l20, two oko okt, len2 (by omega) lt, fun H10 h10 w10 s10 hh10 kh10 => ?_⟩
      rw [fl2] at kh10
      have s8A := s9.trans s10
      refine ⟨(show 4 ≤ sizeLine from by decide), fun r nr => ?_⟩
      have sr := sameN (o := .tup [V.ref h6, V.ref h8, V.int ((m : Int) - 1), V.ref h10]) nr
      have s6r := s68.trans (s8A.trans sr)
      refine q _ r _ _ (m - 1) _ (s14.trans (s46.trans s6r)) (.inr ⟨f, o, em, one, rfl, rfl, rfl, rfl⟩) ⟨h6, h8, h10, w6, w8, w10, .inl (.inl ?_), sameT s6r (.inl (.inl hh6)), PrsV.up (.of s6r) kh6, sameT (s8A.trans sr) (.inl (.inl hh8)), PrsV.up (.of (s8A.trans sr)) kh8, sameT sr (.inl (.inl hh10)), PrsV.up (.of sr) kh10⟩
      rw [upd_same]
      show some (HO.tup [V.ref h6, V.ref h8, V.int ((m : Int) - 1), V.ref h10]) = _
      rw [show ((m : Int) - 1) = ((m - 1 : Nat) : Int) by omega]
end
end C62

set_option Elab.async false
set_option linter.all false
set_option maxRecDepth 100000
namespace C62
open PySem PySem.Spec PyProof.Rows L2 Loc RZ
section
variable {P : Program} {w : World} {K : PySem.W.Frag} {mg : Str → Option Value} {base : Heap}
def spCutsZ (K : PySem.W.Frag) (m : Nat) : Sp := fun vs H Q _ => ∃ (a : Addr) (ns : List Nd), vs = [.ref a] ∧ RowV K m H a ns ∧ ∀ H' p, Same H H' → SqZ H' p (vN ((pieces ns).map (·.1))) → Q (.ref p) H'
theorem ok_cutsZ {f g : Addr} {fd gd : FuncData} {m : Nat} (F : Fun K "cuts" "cuts" sCuts f fd) (G : FnOk P w K mg base CX0 (m + 5) g gd ["row"] (spPeaks K m)) (G' : Fun K "peaks" "peaks" sPeaks g gd) (gG : mg "peaks" = some (.ref g)) (bG : Binds K gd ["row"] [])
    (mr : mg "range" = none) (ml : mg "len" = none) (mt : mg "tuple" = none) (mz : mg "zip" = none) (mlist : mg "list" = none) : FnOk P w K mg base CX0 (m + 6) f fd ["row"] (spCutsZ K m) := by
  refine F.ok scCuts (fun vs H Q E h => ?_) (fun cdv A outer s H vs Q E hr h => ?_)
  · obtain ⟨a, ns, rfl, _⟩ := h
    rfl
  · obtain ⟨a, ns, rfl, hR, q⟩ := h
    refine ⟨_, pss_cons (ps_set (i := 1) scCuts.nd rfl (.inl rfl) (pe_call G hr (by rfl) gG G'.kp bG .nil pass0 (pa_cons (pv 0) pa_nil)))
      (pss_cons (ps_set (i := 2) scCuts.nd rfl (.inl rfl) (pe_op op_catA (pe_tup (pa_cons pe_int pa_nil)) (pv 1)))
      (pss_cons (ps_set (i := 3) scCuts.nd rfl (.inl rfl) (pe_op op_catA (pv 1) (pe_tup (pa_cons (pe_callB call_len_seq (by rfl) ml PySem.boot_len (pa_cons (pv 0) pa_nil)) pa_nil))))
      (pss_cons (ps_set (i := 4) scCuts.nd rfl (.inl rfl) (pe_lst pa_nil))
      (pss_cons (ps_for PassesOwn.never rfl (pi_zipA (by rfl) mz (pa_cons (pv 2) (pa_cons (pv 3) pa_nil))) (pg_tup rfl (pgs_cons (pg_name (i := 5) scCuts.nd rfl (.inl rfl)) (pgs_cons (pg_name (i := 6) scCuts.nd rfl (.inl rfl)) pgs_nil)))
        (pss_one (ps_expr (pe_bm PySem.F.plainAttrs_list PySem.F.slot_list_extend PySem.F.type_list_extend mt_extend (pv 4)
          (pa_cons (pe_listRg3 (by rfl) (by rfl) mlist (by rfl) mr (pa_cons (pv 5) (pa_cons (pe_op op_sub (pv 6) pe_int) (pa_cons pe_int pa_nil)))) pa_nil)))))
      (pss_one (ps_ret (pe_callTy call_tuple_ofZ (by rfl) mt PyProof.Rows.boot_tuple (pa_cons (pv 4) pa_nil)))))))), ?_⟩
    refine ⟨.ref a, rfl, a, ns, rfl, hR, fun H1 p s1 hp => ?_⟩
    obtain ⟨us, hT, hlu, h2, hl⟩ := (hR.same s1).at
    have gap := gap_row h2
    have con := pieces_cont h2
    have lp := pieces_fst_len h2
    unfold pieces M10.pcs at con lp
    have tl : (tops ns).length ≤ ns.length := by
      unfold tops M10.pks
      refine Nat.le_trans (List.length_filter_le _ _) ?_
      rw [List.length_range', mrk_len]
      omega
    refine ⟨(show 1 ≤ sizeLine from by decide), fun t0 n0 => ⟨.ref p, rfl, cat_any (.inl (.inl upd_same)) (sameT (sameN n0) hp) (Nat.le_trans (show 1 + (vN (tops ns)).length ≤ 100001 by rw [vN_len]; omega) (by decide)) fun H2 b s2 hb => ?_⟩⟩
    have s12 := (sameN (o := .tup [.int 0]) n0).trans s2
    refine ⟨.ref p, rfl, .ref a, rfl, a, us, rfl, .inr (sameT s12 hT), (show 1 ≤ sizeLine from by decide), fun t3 n3 => cat_any (sameT (s12.trans (sameN n3)) hp) (.inl (.inl upd_same)) (Nat.le_trans (show (vN (tops ns)).length + 1 ≤ 100001 by rw [vN_len]; omega) (by decide)) fun H3 e s3 he => ?_⟩
    have s23 := (sameN (o := .tup [.int ((us.length : Nat) : Int)]) n3).trans s3
    have hb3 : SqT K H3 b (vN (0 :: tops ns)) := sameT s23 hb
    have he3 : SqT K H3 e (vN (tops ns ++ [ns.length])) := by
      rw [vN_app, ← hlu]
      exact he
    have s13 := s12.trans s23
    rw [← M10.sts_fst ns.length 0 (tops ns)] at hb3
    rw [← M10.sts_snd ns.length 0 (tops ns)] at he3
    refine ⟨(show 0 ≤ sizeLine from by decide), fun L nL => ?_⟩
    have sL := sameN (o := .lst []) nL
    refine ⟨.ref b, rfl, .ref e, rfl, b, e, _, _, rfl, .inr ⟨sameT sL hb3, sameT sL he3, ?_⟩⟩
    generalize hst : M10.sts ns.length 0 (tops ns) = st at hb3 he3 con lp
    refine for_zipT (xs := vN (st.map (·.1))) (ys := vN (st.map (·.2))) (by simp) (fun i σ H' => ∃ y5 y6, σ = [some (.ref a), some (.ref p), some (.ref b), some (.ref e), some (.ref L), y5, y6] ∧ H' L = some (.lst (vN (((st.take i).flatMap M10.stz).map (·.1)))) ∧ Same H3 H')
      ⟨none, none, rfl, upd_same, sL⟩ (fun i σ H' hp' => ?_) (fun i x y T σ H' hx hy hp' nT => ?_) (fun σ H' hp' => ?_)
    · obtain ⟨_, _, _, _, s4⟩ := hp'
      exact ⟨sameT s4 hb3, sameT s4 he3⟩
    · obtain ⟨y5, y6, rfl, gL, s4⟩ := hp'
      obtain ⟨z, hz, rfl⟩ : ∃ z, st[i]? = some z ∧ x = .int (z.1 : Nat) := by
        rw [List.getElem?_map, List.getElem?_map, Option.map_map] at hx
        obtain ⟨z, hz, rfl⟩ := Option.map_eq_some_iff.mp hx
        exact ⟨z, hz, rfl⟩
      have ey : y = .int (z.2 : Nat) := by
        rw [List.getElem?_map, List.getElem?_map, hz] at hy
        exact (Option.some.inj hy).symm
      subst ey
      have hzb := M10.sts_gap gap z (by rw [hst]; exact List.mem_of_getElem? hz)
      obtain ⟨d, hd⟩ : ∃ d, z.2 = z.1 + d := ⟨z.2 - z.1, by omega⟩
      have d2 : 2 ≤ d := by omega
      have gT := sameN (o := .tup [V.int (z.1 : Nat), .int (z.2 : Nat)]) nT
      refine ⟨T, [.int (z.1 : Nat), .int (z.2 : Nat)], rfl, .inl (.inl upd_same), rfl, _, [.int (z.2 : Nat)], rfl, _, [], rfl, rfl, ?_⟩
      refine ⟨.ref L, rfl, .inl ⟨rfl, _, .inl (.inl (gT _ _ gL))⟩, _, rfl, _, rfl, _, 1, rfl, rfl, (z.1 : Nat), _, 2, d / 2, rfl, by rw [hd]; exact rgC_two d2 (by omega), by omega, fun l5 n5 => ?_⟩
      have tk : st.take (i + 1) = st.take i ++ [z] := take_more hz
      have ev : ((List.range (d / 2)).map fun k => V.int (((z.1 : Nat) : Int) + (k : Nat) * 2)) = vN ((M10.stz z).map (·.1)) := by
        unfold M10.stz
        rw [hd, Nat.add_sub_cancel_left, M10.str_fst d z.1 d2]
        show _ = List.map (fun n : Nat => V.int (n : Int)) (List.map (fun k => z.1 + k * 2) (List.range (d / 2)))
        rw [List.map_map]
        refine List.map_congr_left fun k _ => int_congr ?_
        show (z.1 : Int) + (k : Nat) * 2 = ((z.1 + k * 2 : Nat) : Int)
        omega
      have lall : (((st.take i).flatMap M10.stz).map (·.1)).length + ((M10.stz z).map (·.1)).length ≤ ns.length := by
        have e1 : (st.take (i + 1)).flatMap M10.stz ++ (st.drop (i + 1)).flatMap M10.stz = st.flatMap M10.stz := by rw [← List.flatMap_append, List.take_append_drop]
        have e2 := congrArg List.length e1
        rw [List.length_append, tk, List.flatMap_append, List.length_append] at e2
        have e3 : ([z].flatMap M10.stz) = M10.stz z := by simp
        rw [e3] at e2
        rw [List.length_map, List.length_map]
        omega
      refine ⟨L, l5, _, _, rfl, rfl, sameN n5 _ _ (gT _ _ gL), upd_same, ?_, _, _, rfl, ?_, sameW ((s4.trans gT).trans (sameN n5)) nL⟩
      · rw [ev, vN_len, vN_len]
        exact Nat.le_trans lall (Nat.le_of_lt (line5 hl))
      · rw [upd_same, ev, tk, List.flatMap_append, List.map_append]
        unfold vN
        rw [List.map_append]
        simp
    · obtain ⟨y5, y6, rfl, gL, s4⟩ := hp'
      have full : st.take (vN (st.map (·.1))).length = st := List.take_of_length_le (by simp)
      rw [full] at gL
      have e := hst
      refine ⟨.ref L, rfl, L, _, rfl, .inl (.inl gL), fun t nt H' sZ hZ => q H' t (((s1.trans s13).trans s4).trans sZ) ?_⟩
      have : vN ((pieces ns).map (·.1)) = vN ((st.flatMap M10.stz).map (·.1)) := by
        unfold pieces M10.pcs
        rw [hst]
      rw [this]
      exact hZ
end
end C62

set_option Elab.async false
set_option linter.all false
set_option maxRecDepth 100000
namespace C62
open PySem PySem.Spec PyProof.Rows L2 Loc RZ
section
variable {P : Program} {w : World} {K : PySem.W.Frag} {mg : Str → Option Value} {base : Heap}
theorem tops_first {ns : List Nd} {b q : Nat} (h2 : 2 ≤ b) (h1 : b ≤ q) (h3 : q < ns.length - 1) (pq : M10.pk (mrk ns) q = true) (no : ∀ j, b ≤ j → j < q → ¬ M10.pk (mrk ns) j = true) : ∃ r, (tops ns).filter (fun j => decide (b ≤ j)) = q :: r := by
  have e1 : (tin ns 2 b).filter (fun j => decide (b ≤ j)) = [] := List.filter_eq_nil_iff.mpr fun j hj => by
    have := tin_mem hj
    simp only [decide_eq_true_eq]
    omega
  have e2 : tin ns b q = [] := List.filter_eq_nil_iff.mpr fun j hj => by
    obtain ⟨i, hi, rfl⟩ := List.mem_range'.mp hj
    exact no _ (by omega) (by omega)
  rw [tops_tin, tin_split (a := 2) (b := b) (by omega) (by omega), tin_split (a := b) (b := q) (by omega) (by omega), e2, List.nil_append, tin_at h3 pq, List.filter_append, e1, List.nil_append, List.filter_cons_of_pos (by simpa using h1)]
  exact ⟨_, rfl⟩
theorem prsV_reps {H : Hp} {ws : List V} {ps : List (Nd × Nat)} (h : PrsV K H ws ps) : ∀ c : Nat, PrsV K H (List.replicate c ws).flatten (cop c ps)
  | 0 => .nil
  | c + 1 => by
    rw [List.replicate_succ, List.flatten_cons, cop_succ]
    exact h.app (prsV_reps h c)
theorem DpAll.cut {H : Hp} : ∀ {ds : List PyData} {vs : List V} (k : Nat), DpAll K H vs ds → DpAll K H (vs.take k) (ds.take k) ∧ DpAll K H (vs.drop k) (ds.drop k)
  | _, _, 0, h => ⟨by rw [List.take_zero, List.take_zero]; exact .nil, by rw [List.drop_zero, List.drop_zero]; exact h⟩
  | [], _, k + 1, h => by
    cases h
    exact ⟨.nil, .nil⟩
  | d :: ds, _, k + 1, h => by
    cases h with
    | cons h1 h2 =>
      obtain ⟨a, b⟩ := DpAll.cut k h2
      exact ⟨.cons h1 a, b⟩
theorem PrsV.tk {H : Hp} {ws : List V} {gs : List (Nd × Nat)} (h : PrsV K H ws gs) (k : Nat) : PrsV K H (ws.take k) (gs.take k) := by
  have := (DpAll.cut k h).1
  rw [← List.map_take] at this
  exact this
theorem PrsV.dr {H : Hp} {ws : List V} {gs : List (Nd × Nat)} (h : PrsV K H ws gs) (k : Nat) : PrsV K H (ws.drop k) (gs.drop k) := by
  have := (DpAll.cut k h).2
  rw [← List.map_drop] at this
  exact this
abbrev nmCut : List Str := ["head", "period", "times", "tail", "row", "peak", "begins", "at", "behind", "made", "node", "count", "place", "block"]
theorem scCutF : FnScope nmCut ["head", "period", "times", "tail"] (defScope s__cut) := ⟨rfl, rfl, rfl, by decide +kernel, rfl, by decide +kernel, by decide +kernel⟩
def spCutF (K : PySem.W.Frag) : Sp := fun vs H Q _ => ∃ (a b c : Addr) (wa wb wc : List V) (h p t : List (Nd × Nat)) (m l : Nat), vs = [.ref a, .ref b, .int (m : Nat), .ref c] ∧ SqT K H a wa ∧ PrsV K H wa h ∧ SqT K H b wb ∧ PrsV K H wb p ∧ SqT K H c wc ∧ PrsV K H wc t ∧
  OkAll ((h ++ cop 6 p ++ t).map mkRun) l ∧ Unb ((h ++ cop 6 p ++ t).map mkRun) ∧ l ≤ 4 ∧ (h ++ cop 6 p ++ t).length ≤ 1440 ∧ 2 ≤ p.length ∧ 6 ≤ m ∧
  ∀ H' r q A B C pa pb pc, Same H H' → CutsOf (h.map mkRun) (p.map mkRun) (t.map mkRun) q A B C pa pb pc → StV K H' r (ones A) (ones B) (m - 5) (ones C) → Q (.ref r) H'
theorem ok_cutf (X : Facts K mg) : FnOk P w K mg base CX0 28 X.ucut X.vcut ["head", "period", "times", "tail"] (spCutF K) := by
  have GP := base_peaks (P := P) (w := w) (base := base) X
  have GB := base_blocks (P := P) (w := w) (base := base) X
  have GC : FnOk P w K mg base CX0 26 X.ucuts X.vcuts ["row"] (spCutsZ K 20) := ok_cutsZ (m := 20) X.fcuts (base_peaks X) X.fpeaks X.gpeaks X.bpeaks X.range X.len X.tuple X.zip X.list
  have GR : FnOk P w K mg base CX0 1 X.urun_of X.vrun_of ["node", "count"] (spRunOf K) := ok_runof X.frun_of
  refine X.fcut.ok scCutF (fun vs H Q E h => ?_) (fun cdv A outer s H vs Q E hr h => ?_)
  · obtain ⟨a, b, c, wa, wb, wc, h, p, t, m, l, rfl, _⟩ := h
    rfl
  · obtain ⟨a, b, c, wa, wb, wc, h, p, t, m, l, rfl, ha, ka, hb, kb, hc, kc, ok6, un6, l4, l6, p2, m6, q⟩ := h
    have r1 := hr.mono (j := 1) (by omega)
    have r25 := hr.mono (j := 25) (by omega)
    have r26 := hr.mono (j := 26) (by omega)
    refine ⟨_, pss_cons (ps_set (i := 4) scCutF.nd rfl (.inl rfl) (pe_callTy call_tuple_of (by rfl) X.tuple PyProof.Rows.boot_tuple (pa_cons
          (pe_lc (own := [("node", 10), ("count", 11)]) (g := gTup K 2 (gCons (gName 10) (gCons (gName 11) gNil))) (tt := tYes) rfl scCutF.nd (pi_tup (pe_op op_catA (pe_op op_catA (pv 0) (pe_op op_repTA (pv 1) (pe_glob (v := .int 6) (by rfl) X.SHOWN ⟨_, rfl⟩))) (pv 3))) (blkOk_by (N := nmCut) (sc := defScope s__cut) (by decide +kernel))
            (fun _ _ _ _ _ => pg_tup rfl (pgs_cons (pg_name (i := 10) scCutF.nd rfl (Or.inl rfl) (hf := Or.inr rfl)) (pgs_cons (pg_name (i := 11) scCutF.nd rfl (Or.inl rfl) (hf := Or.inr rfl)) pgs_nil))) (fun _ _ _ _ _ => pts_nil)
            (fun _ _ _ _ _ => pe_call GR r1 (by rfl) X.grun_of X.frun_of.kp X.brun_of .nil pass0 (pa_cons (pv 10) (pa_cons (pv 11) pa_nil)))) pa_nil)))
      (pss_cons (ps_set (i := 5) scCutF.nd rfl (.inl rfl) (pe_ix ix_list
          (pe_lc (own := [("place", 12)]) (g := gName 12) (tt := tTest (tOp (rI0 fun i j => .bl (decide (j ≤ i))) (tVar 12) (tOp (rI0 fun i j => .int (i + j)) (tCB (fun xs H Q => ∃ p ys, xs = [.ref p] ∧ (SqL K H p ys ∨ SqT K H p ys) ∧ Q (.int (ys.length : Nat)) H) (tCons (tVar 0) tNil)) (tC (.int 6))))) (te := tVar 12) rfl scCutF.nd
            (pi_tup (pe_call GP r25 (by rfl) X.gpeaks X.fpeaks.kp X.bpeaks .nil pass0 (pa_cons (pv 4) pa_nil))) (blkOk_by (N := nmCut) (sc := defScope s__cut) (by decide +kernel))
            (fun _ _ _ _ _ => pg_name (i := 12) scCutF.nd rfl (Or.inl rfl))
            (fun _ _ _ _ _ => pts_one (pt_cmpR op_ge (pv 12) (pe_op op_add (pe_callB call_len_seq (by rfl) X.len PySem.boot_len (pa_cons (pv 0) pa_nil)) (pe_glob (v := .int 6) (by rfl) X.LEFT_OF_PEAK ⟨_, rfl⟩)) (nomark _)))
            (fun _ _ _ _ _ => pv 12)) pe_int (fun _ _ => rfl)))
      (pss_cons (ps_set (i := 6) scCutF.nd rfl (.inl rfl) (pe_call GC r26 (by rfl) X.gcuts X.fcuts.kp X.bcuts .nil pass0 (pa_cons (pv 4) pa_nil)))
      (pss_cons (ps_set (i := 7) scCutF.nd rfl (.inl rfl) (pe_bmZ PySem.F.plainAttrs_tuple PySem.F.slot_tuple_index PySem.F.type_tuple_index mt_tup_indexI (pv 6) (pa_cons (pv 5) pa_nil)))
      (pss_cons (ps_set (i := 8) scCutF.nd rfl (.inl rfl) (pe_bmZ PySem.F.plainAttrs_tuple PySem.F.slot_tuple_index PySem.F.type_tuple_index mt_tup_indexI (pv 6) (pa_cons (pe_op op_add (pv 5) (pe_callB call_len_seq (by rfl) X.len PySem.boot_len (pa_cons (pv 1) pa_nil))) pa_nil)))
      (pss_cons (ps_set (i := 9) scCutF.nd rfl (.inl rfl) (pe_callTy call_tuple_of (by rfl) X.tuple PyProof.Rows.boot_tuple (pa_cons
          (pe_lc (own := [("block", 13)]) (g := gName 13) (tt := tYes) (te := tTup (tCons (tVar 13) (tCons (tC (.int 1)) tNil))) rfl scCutF.nd (pi_tup (pe_call GB hr (by rfl) X.gblocks X.fblocks.kp X.bblocks .nil pass0 (pa_cons (pv 4) pa_nil))) (blkOk_by (N := nmCut) (sc := defScope s__cut) (by decide +kernel))
            (fun _ _ _ _ _ => pg_name (i := 13) scCutF.nd rfl (Or.inl rfl)) (fun _ _ _ _ _ => pts_nil) (fun _ _ _ _ _ => pe_tup (pa_cons (pv 13) (pa_cons pe_int pa_nil)))) pa_nil)))
      (pss_one (ps_ret (pe_tup (pa_cons (pe_slice sl_tupA (pv 9) po_none (po_some (pv 7))) (pa_cons (pe_slice sl_tupA (pv 9) (po_some (pv 7)) (po_some (pv 8)))
        (pa_cons (pe_op op_add (pe_op op_sub (pv 2) (pe_glob (v := .int 6) (by rfl) X.SHOWN ⟨_, rfl⟩)) pe_int) (pa_cons (pe_slice sl_tupA (pv 9) (po_some (pv 8)) po_none) pa_nil)))))))))))), ?_⟩
    have la := PrsV.len ka
    have lb := PrsV.len kb
    have lc := PrsV.len kc
    have lall := l6
    rw [List.length_append, List.length_append, cop_len] at lall
    have e6 : rpt (h.map mkRun) (p.map mkRun) 6 (t.map mkRun) = (h ++ cop 6 p ++ t).map mkRun := by
      unfold rpt
      rw [List.map_append, List.map_append, cop_map]
    have good := mrk_good ok6 un6 (Nat.le_trans (wideL l (by omega)) (by decide))
    rw [← e6] at good
    obtain ⟨pq, q1, q2, q3, q4⟩ := copies_peak (H := h.map mkRun) (P := p.map mkRun) (T := t.map mkRun) (by rw [List.length_map]; exact p2) good.1 good.2
    obtain ⟨Aa, Bb, Cc, pa, pb, pc, U⟩ := copies_cut (by rw [List.length_map]; exact p2) q1 q2 q3
    have nlen : ((h ++ cop 6 p ++ t).map mkRun).length = h.length + 6 * p.length + t.length := by rw [List.length_map, List.length_append, List.length_append, cop_len]
    have first : ∃ r, (tops ((h ++ cop 6 p ++ t).map mkRun)).filter (fun j => decide (h.length + 6 ≤ j)) = pq :: r := by
      rw [e6] at q3 q4
      rw [List.length_map] at q1 q2 q4
      rw [List.length_map] at q2
      exact tops_first (by omega) q1 (by rw [nlen]; omega) q3 q4
    have U' := U
    -- the row
    refine ⟨.ref a, rfl, .ref b, rfl, b, 6, wb, rfl, rfl, hb, by decide, by decide, by omega, fun H1 t1 s1 h1 => ?_⟩
    refine cat_any (sameT s1 ha) h1 ?_ fun H2 t2 s2 h2 => ?_
    · rw [PyProof.Rows.lm_len_rep_flat]
      exact Nat.le_trans (show wa.length + (6 : Int).toNat * wb.length ≤ 2000 by show wa.length + 6 * wb.length ≤ 2000; omega) (by decide)
    have s12 := s1.trans s2
    refine ⟨.ref c, rfl, cat_any h2 (sameT s12 hc) ?_ fun H3 t3 s3 h3 => ?_⟩
    · rw [List.length_append, PyProof.Rows.lm_len_rep_flat]
      exact Nat.le_trans (show wa.length + (6 : Int).toNat * wb.length + wc.length ≤ 2000 by show wa.length + 6 * wb.length + wc.length ≤ 2000; omega) (by decide)
    have s13 := s12.trans s3
    have kall : PrsV K H3 (wa ++ (List.replicate (6 : Int).toNat wb).flatten ++ wc) (h ++ cop 6 p ++ t) := ((PrsV.up (.of s13) ka).app (prsV_reps (PrsV.up (.of s13) kb) 6)).app (PrsV.up (.of s13) kc)
    generalize wa ++ (List.replicate (6 : Int).toNat wb).flatten ++ wc = ws at h3 kall
    have lws := PrsV.len kall
    generalize ens : h ++ cop 6 p ++ t = gs at *
    refine ⟨t3, rfl, ⟨ws, h3⟩, fun D nD => ?_⟩
    refine lc_tup (xs := ws) (fun i H' => ∃ vs', H' D = some (.lst vs') ∧ NdsV K H' vs' ((gs.take i).map mkRun) ∧ Same H3 H') ⟨[], upd_same, .nil, sameN nD⟩ (fun i H' _ hp => ?_) (fun i u H' hu hp => ?_) (fun H4 hp => ?_)
    · obtain ⟨_, _, _, s4⟩ := hp
      exact sameT s4 h3
    · obtain ⟨vs', gD, dD, s4⟩ := hp
      obtain ⟨pr, ra, v, hpi, rfl, u1, u2⟩ := (PrsV.up (.of s4) kall).get hu
      refine ⟨ra, _, rfl, u1, rfl, v, _, rfl, _, [], rfl, rfl, rfl, ?_⟩
      refine ⟨v, rfl, _, rfl, v, pr.1, _, pr.2, rfl, rfl, u2, fun H5 u5 s5 k5 => ⟨vs', s5 _ _ gD, ?_, vs' ++ [u5], upd_same, ?_, sameW (s4.trans s5) nD⟩⟩
      · rw [dD.len, List.length_map]
        exact line5 (small_take (by omega))
      · rw [take_more hpi, List.map_append]
        have t9 : Tups K H5 (upd H5 D (.lst (vs' ++ [u5]))) := (But.set (p := D)).tups (s5 _ _ gD)
        exact ((dD.up (.of s5)).up t9).app (.one (k5.up t9))
    obtain ⟨vs', gD, dD, s4⟩ := hp
    have full : gs.take ws.length = gs := List.take_of_length_le (by rw [lws]; exact Nat.le_refl _)
    rw [full] at dD
    refine ⟨D, vs', rfl, .inl ⟨.inl (.inl gD), fun R nR => ?_⟩⟩
    have sR := sameN (o := .tup vs') nR
    have s15 := s13.trans (s4.trans sR)
    have hR : RowV K 20 (upd H4 R (.tup vs')) R (gs.map mkRun) := by
      refine ⟨vs', l, .inl (.inl upd_same), dD.up (.of sR), ok6, un6, wideL l (by omega), fun n hn => ?_, by omega, by omega⟩
      have := ht_le n l (ok6.mem n hn)
      split at this <;> omega
    have ha5 := sameT s15 ha
    have hb5 := sameT s15 hb
    generalize upd H4 R (.tup vs') = H5 at hR s15 ha5 hb5
    -- the peak
    refine ⟨.ref R, rfl, R, _, rfl, hR, fun H6 tp s6 htp => ?_⟩
    refine ⟨tp, rfl, ⟨_, htp⟩, fun D2 nD2 => ?_⟩
    refine lc_tup (xs := vN (tops (gs.map mkRun))) (fun i H' => H' D2 = some (.lst (vN (((tops (gs.map mkRun)).take i).filter (fun j => decide (h.length + 6 ≤ j))))) ∧ Same H6 H') ⟨upd_same, sameN nD2⟩ (fun i H' _ hp => sameT hp.2 htp) (fun i u H' hu hp => ?_) (fun H7 hp => ?_)
    · obtain ⟨g1, s7⟩ := hp
      rw [List.getElem?_map] at hu
      obtain ⟨j, hj, rfl⟩ := Option.map_eq_some_iff.mp hu
      refine ⟨rfl, _, rfl, .ref a, rfl, a, wa, rfl, .inr (sameT (s6.trans s7) ha5), _, _, rfl, rfl, _, _, rfl, rfl, _, rfl, ?_⟩
      have tk := take_more hj
      have ed : decide (((wa.length : Nat) : Int) + 6 ≤ (j : Int)) = decide (h.length + 6 ≤ j) := decide_eq_decide.mpr ⟨fun h => by omega, fun h => by omega⟩
      rw [ed]
      refine ite2 (fun e => ?_) (fun e => ?_)
      · refine ⟨_, rfl, _, g1, ?_, ?_, sameW s7 nD2⟩
        · rw [vN_len]
          refine line5 (Nat.le_trans (List.length_filter_le _ _) (small_take ?_))
          have : (tops (gs.map mkRun)).length ≤ (gs.map mkRun).length := by
            unfold tops M10.pks
            refine Nat.le_trans (List.length_filter_le _ _) ?_
            rw [List.length_range', mrk_len]
            omega
          rw [List.length_map] at this
          omega
        · rw [upd_same, tk, List.filter_append, List.filter_cons_of_pos (p := fun j => decide (h.length + 6 ≤ j)) e, List.filter_nil, vN_app]
      · rw [tk, List.filter_append, List.filter_cons_of_neg (p := fun j => decide (h.length + 6 ≤ j)) e, List.filter_nil, List.append_nil]
        exact ⟨g1, s7⟩
    obtain ⟨g1, s7⟩ := hp
    rw [List.take_of_length_le (by rw [vN_len]; exact Nat.le_refl _)] at g1
    obtain ⟨rest, er⟩ := first
    rw [er] at g1
    refine ⟨D2, _, 0, .int (pq : Nat), rfl, rfl, .inl (.inl g1), atI_nat (j := 0) rfl, ?_⟩
    have s57 := s6.trans s7
    -- the cuts
    refine ⟨.ref R, rfl, R, _, rfl, hR.same s57, fun H8 tc s8 hz => ?_⟩
    have s58 := s57.trans s8
    have pcs := U.pcs
    rw [e6] at pcs
    have vI : vN ((pieces (gs.map mkRun)).map (·.1)) = (((pieces (gs.map mkRun)).map (·.1)).map fun n : Nat => (n : Int)).map V.int := by
      rw [List.map_map]
      rfl
    obtain ⟨zb, rb, eb, ezb⟩ := U.hb
    obtain ⟨zc, rc, ec, ezc⟩ := U.hc
    have at1 : (((pieces (gs.map mkRun)).map (·.1)).map fun n : Nat => (n : Int))[pa.length]? = some (pq : Int) := by
      rw [pcs, eb, List.append_assoc, List.map_append, List.map_append, List.getElem?_append_right (by rw [List.length_map, List.length_map]; exact Nat.le_refl _), List.length_map, List.length_map, Nat.sub_self]
      show some ((zb.1 : Nat) : Int) = _
      rw [ezb]
    have no1 : ∀ j, j < pa.length → (((pieces (gs.map mkRun)).map (·.1)).map fun n : Nat => (n : Int))[j]? ≠ some (pq : Int) := fun j hj z => by
      rw [pcs, List.append_assoc, List.map_append, List.map_append, List.getElem?_append_left (by rw [List.length_map, List.length_map]; exact hj), List.getElem?_map, List.getElem?_map] at z
      obtain ⟨y, hy⟩ := get_of hj
      rw [hy] at z
      have e0 : ((y.1 : Nat) : Int) = (pq : Int) := Option.some.inj z
      have := U.qa y (List.mem_of_getElem? hy)
      omega
    have at2 : (((pieces (gs.map mkRun)).map (·.1)).map fun n : Nat => (n : Int))[(pa ++ pb).length]? = some ((pq + p.length : Nat) : Int) := by
      rw [pcs, ec, List.map_append, List.map_append, List.getElem?_append_right (by rw [List.length_map, List.length_map]; exact Nat.le_refl _), List.length_map, List.length_map, Nat.sub_self]
      show some ((zc.1 : Nat) : Int) = _
      rw [ezc, List.length_map]
    have no2 : ∀ j, j < (pa ++ pb).length → (((pieces (gs.map mkRun)).map (·.1)).map fun n : Nat => (n : Int))[j]? ≠ some ((pq + p.length : Nat) : Int) := fun j hj z => by
      rw [pcs, List.map_append, List.map_append, List.getElem?_append_left (by rw [List.length_map, List.length_map]; exact hj), List.getElem?_map, List.getElem?_map] at z
      obtain ⟨y, hy⟩ := get_of hj
      rw [hy] at z
      have e0 : ((y.1 : Nat) : Int) = ((pq + p.length : Nat) : Int) := Option.some.inj z
      have hm := List.mem_of_getElem? hy
      rcases List.mem_append.mp hm with hm | hm
      · have := U.qa y hm
        omega
      · have := U.qb y hm
        rw [List.length_map] at this
        omega
    rw [vI] at hz
    refine ⟨.ref tc, rfl, ⟨tc, _, rfl, hz⟩, _, rfl, tc, _, _, pa.length, rfl, rfl, hz.sqt, at1, no1, ?_⟩
    refine ⟨.ref tc, rfl, ⟨tc, _, rfl, hz⟩, _, rfl, .ref b, rfl, b, wb, rfl, .inr (sameT s58 hb5), _, _, rfl, rfl, tc, _, _, (pa ++ pb).length, rfl, ?_, hz.sqt, at2, no2, ?_⟩
    · show [V.int ((pq : Int) + ((wb.length : Nat) : Int))] = _
      rw [lb]
      rfl
    -- the blocks
    refine ⟨.ref R, rfl, R, _, rfl, hR.same s58, fun H9 tb us s9 htb kN => ?_⟩
    have bk := U.bk
    rw [e6] at bk
    have kN' : NdsV K H9 us (Aa ++ Bb ++ Cc) := by
      rw [← bk]
      exact kN
    have lbk : (Aa ++ Bb ++ Cc).length ≤ 1440 := by
      rw [← bk]
      have : (bks (gs.map mkRun)).length = (pieces (gs.map mkRun)).length := List.length_map _
      rw [this]
      have := pieces_fst_len (ns := gs.map mkRun) (by omega)
      rw [List.length_map] at this
      omega
    have lus := kN'.len
    refine ⟨tb, rfl, ⟨us, htb⟩, fun D3 nD3 => ?_⟩
    refine lc_tup (xs := us) (fun i H' => ∃ vs', H' D3 = some (.lst vs') ∧ PrsV K H' vs' (ones ((Aa ++ Bb ++ Cc).take i)) ∧ Same H9 H') ⟨[], upd_same, .nil, sameN nD3⟩ (fun i H' _ hp => ?_) (fun i u H' hu hp => ?_) (fun H10 hp => ?_)
    · obtain ⟨_, _, _, s10⟩ := hp
      exact sameT s10 htb
    · obtain ⟨ws', g2, k2, s10⟩ := hp
      obtain ⟨x, hx, kx⟩ := (kN'.up (.of s10)).get hu
      have il := (List.getElem?_eq_some_iff.mp hx).1
      refine ⟨rfl, u, rfl, (show 2 ≤ sizeLine from by decide), fun T nT => ?_⟩
      have sT := sameN (o := .tup [u, V.int 1]) nT
      have g2' := sT _ _ g2
      have t9 : Tups K (upd H' T (.tup [u, V.int 1])) (upd (upd H' T (.tup [u, V.int 1])) D3 (.lst (ws' ++ [.ref T]))) := (But.set (p := D3)).tups g2'
      refine ⟨ws', g2', ?_, ws' ++ [.ref T], upd_same, ?_, sameW (s10.trans sT) nD3⟩
      · rw [PrsV.len k2]
        unfold ones
        rw [List.length_map]
        exact line5 (small_take (by omega))
      · have e1 : ones ((Aa ++ Bb ++ Cc).take (i + 1)) = ones ((Aa ++ Bb ++ Cc).take i) ++ [(x, 1)] := by
          unfold ones
          rw [take_more hx, List.map_append]
          rfl
        rw [e1]
        exact PrsV.up t9 ((PrsV.up (.of sT) k2).app (.one (p := (x, 1)) (.inl (.inl upd_same)) (kx.up (.of sT))))
    obtain ⟨ws', g2, k2, s10⟩ := hp
    rw [List.take_of_length_le (by rw [lus]; exact Nat.le_refl _)] at k2
    refine ⟨D3, ws', rfl, .inl ⟨.inl (.inl g2), fun M nM => ?_⟩⟩
    have sM := sameN (o := .tup ws') nM
    have kM := PrsV.up (.of (K := K) sM) k2
    have hM : SqT K (upd H10 M (.tup ws')) M ws' := .inl (.inl upd_same)
    have s5M := s58.trans (s9.trans (s10.trans sM))
    generalize upd H10 M (.tup ws') = H11 at kM hM s5M
    have lM := PrsV.len kM
    have lo : (ones (Aa ++ Bb ++ Cc)).length = Aa.length + Bb.length + Cc.length := by
      unfold ones
      rw [List.length_map, List.length_append, List.length_append]
    have eo : ones (Aa ++ Bb ++ Cc) = ones Aa ++ (ones Bb ++ ones Cc) := by
      unfold ones
      rw [List.map_append, List.map_append, List.append_assoc]
    have loA : (ones Aa).length = pa.length := by
      unfold ones
      rw [List.length_map, U.la]
    have loB : (ones Bb).length = pb.length := by
      unfold ones
      rw [List.length_map, U.lb]
    have lpp : (pa ++ pb).length = pa.length + pb.length := List.length_append
    have A1 := U.la
    have B1 := U.lb
    refine ⟨.ref M, rfl, _, rfl, _, rfl, slice_pre (k := pa.length) hM fun H12 ta s11 hta => ?_⟩
    refine ⟨.ref M, rfl, _, rfl, _, rfl, _, rfl, _, rfl, slice_any (b := pa.length) (e := (pa ++ pb).length) (sameT s11 hM) (by omega) (by omega) fun H13 tb2 s12' htb2 => ?_⟩
    refine ⟨_, rfl, _, 6, rfl, rfl, _, 1, rfl, rfl, .ref M, rfl, _, rfl, _, rfl, ?_⟩
    dsimp only [tNoPart]
    have s11b := s11.trans s12'
    refine slice_suf (k := (pa ++ pb).length) (sameT s11b hM) (by omega) fun H14 tc2 s13' htc2 => ⟨(show 4 ≤ sizeLine from by decide), fun r nr => ?_⟩
    have sr := sameN (o := .tup [V.ref ta, V.ref tb2, V.int ((m : Int) - 6 + 1), V.ref tc2]) nr
    have sE := s13'.trans sr
    have sD := s12'.trans sE
    have sC := s11.trans sD
    have kF := PrsV.up (.of (K := K) sC) kM
    refine q _ r pq Aa Bb Cc pa pb pc (s15.trans (s5M.trans sC)) U ⟨ta, tb2, tc2, _, _, _, .inl (.inl ?_), sameT sD hta, ?_, sameT sE htb2, ?_, sameT sr htc2, ?_⟩
    · rw [upd_same]
      show some (HO.tup [V.ref ta, V.ref tb2, V.int ((m : Int) - 6 + 1), V.ref tc2]) = _
      rw [show ((m : Int) - 6 + 1) = ((m - 5 : Nat) : Int) by omega]
    · have := PrsV.tk kF pa.length
      rw [eo, ← loA, List.take_left] at this
      rw [← loA]
      exact this
    · have := PrsV.dr (PrsV.tk kF (pa ++ pb).length) pa.length
      rw [eo, lpp, ← loA, ← loB, ← List.append_assoc, ← List.length_append, List.take_left, List.drop_left] at this
      rw [lpp, ← loA, ← loB, ← List.length_append]
      exact this
    · have := PrsV.dr kF (pa ++ pb).length
      rw [eo, lpp, ← loA, ← loB, ← List.append_assoc, ← List.length_append, List.drop_left] at this
      rw [lpp, ← loA, ← loB, ← List.length_append]
      exact this
end
end C62

set_option Elab.async false
set_option linter.all false
set_option maxRecDepth 100000
namespace C62
open PySem PySem.Spec PyProof.Rows L2 Loc RZ
section
variable {P : Program} {w : World} {K : PySem.W.Frag} {mg : Str → Option Value} {base : Heap}
theorem st_made {r0 : List Nd} {k : Nat} {h p t : List (Nd × Nat)} {m q : Nat} {A B C : List Nd} {pa pb pc : List (Nat × Nat)} (S : St r0 k h p m t) (m6 : 6 ≤ m) (U : CutsOf (h.map mkRun) (p.map mkRun) (t.map mkRun) q A B C pa pb pc) :
    (∀ y ∈ ones A ++ ones B ++ ones C, Ok y.1 (k + 1) ∧ 1 ≤ y.2) ∧ ones B ≠ [] ∧ (ones A).length ≤ 2000 ∧ (ones B).length ≤ 2000 ∧ (ones C).length ≤ 2000 ∧ (xp (ones B)).length ≤ 10 ^ 60 := by
  obtain ⟨p2, k4, ok6, un6, l6, e6, em⟩ := st_row S m6
  have n2 : 2 ≤ ((h ++ cop 6 p ++ t).map mkRun).length := by
    rw [List.length_map, List.length_append, List.length_append, cop_len]
    omega
  have okb : OkAll (bks ((h ++ cop 6 p ++ t).map mkRun)) (k + 1) := ok_pieces ok6 un6 n2
  have bk := U.bk
  rw [e6] at bk
  rw [bk] at okb
  have lb : (bks ((h ++ cop 6 p ++ t).map mkRun)).length ≤ 1440 := by
    have : (bks ((h ++ cop 6 p ++ t).map mkRun)).length = (pieces ((h ++ cop 6 p ++ t).map mkRun)).length := List.length_map _
    rw [this]
    have := pieces_fst_len n2
    rw [List.length_map] at this
    omega
  rw [bk, List.length_append, List.length_append] at lb
  have lo : ∀ D : List Nd, (ones D).length = D.length := fun D => List.length_map _
  refine ⟨fun y hy => ?_, fun z => ?_, by rw [lo]; omega, by rw [lo]; omega, by rw [lo]; omega, by rw [xp_ones]; exact Nat.le_trans (show B.length ≤ 1440 by omega) (by decide)⟩
  · have : y ∈ (A ++ B ++ C).map fun n => (n, 1) := by
      rw [List.map_append, List.map_append]
      exact hy
    obtain ⟨n, hn, rfl⟩ := List.mem_map.mp this
    exact ⟨okb.mem _ hn, Nat.le_refl _⟩
  · obtain ⟨z1, r1, e1, _⟩ := U.hb
    have := U.lb
    rw [e1, List.length_cons] at this
    have l0 := congrArg List.length z
    rw [lo, List.length_nil] at l0
    omega
/-- three tuples of pairs -/
def Tri (K : PySem.W.Frag) (H : Hp) (a b c : Addr) (h p t : List (Nd × Nat)) : Prop := ∃ wa wb wc, SqT K H a wa ∧ PrsV K H wa h ∧ SqT K H b wb ∧ PrsV K H wb p ∧ SqT K H c wc ∧ PrsV K H wc t
theorem Tri.same {H H' : Hp} {a b c : Addr} {h p t : List (Nd × Nat)} (x : Tri K H a b c h p t) (s : Same H H') : Tri K H' a b c h p t := by
  obtain ⟨wa, wb, wc, h1, h2, h3, h4, h5, h6⟩ := x
  exact ⟨wa, wb, wc, sameT s h1, PrsV.up (.of s) h2, sameT s h3, PrsV.up (.of s) h4, sameT s h5, PrsV.up (.of s) h6⟩
/-- where the way of the copies ends -/
theorem st_end {r0 : List Nd} {k : Nat} {h p t : List (Nd × Nat)} {m : Nat} (S : St r0 k h p m t) (m5 : m ≤ 5) : Lv k ((h ++ cop m p ++ t).map mkRun) 0 ∧ (h ++ cop m p ++ t).length ≤ 1440 := by
  have sub : ∀ q ∈ h ++ cop m p ++ t, q ∈ h ++ p ++ t := fun q hq => by
    rcases List.mem_append.mp hq with hq | hq
    · rcases List.mem_append.mp hq with hq | hq
      · simp [hq]
      · have := cop_mem hq
        simp [this]
    · simp [hq]
  have len : (h ++ cop m p ++ t).length * 2 ^ k ≤ 1440 := by
    rw [List.length_append, List.length_append, cop_len]
    have a1 : (h.length + m * p.length + t.length) * 2 ^ k = (h.length + t.length) * 2 ^ k + m * (p.length * 2 ^ k) := by
      rw [← Nat.mul_assoc, ← Nat.add_mul]
      congr 1
      omega
    have a2 : m * (p.length * 2 ^ k) ≤ 5 * 40 := Nat.mul_le_mul m5 S.szP
    have := S.szT
    have := S.k5
    omega
  have p1 : 1 ≤ 2 ^ k := Nat.one_le_two_pow
  refine ⟨⟨OkAll.of fun x hx => ?_, unb_runs (fun q hq => (S.ok q (sub q hq)).2) S.rd.2, ?_, ?_⟩, ?_⟩
  · obtain ⟨q, hq, rfl⟩ := List.mem_map.mp hx
    obtain ⟨o, nr⟩ := S.ok q (sub q hq)
    have c1 := S.ones q (sub q hq)
    have c2 := S.cnt q (sub q hq)
    unfold mkRun
    split
    · exact o
    · unfold Ok
      exact ⟨by omega, c2, nr, o⟩
  · show 1 ≤ ((h ++ cop m p ++ t).map mkRun).length
    rw [List.length_map]
    exact List.length_pos_iff.mpr S.some
  · show ((h ++ cop m p ++ t).map mkRun).length * 2 ^ (k + 0) ≤ 1440
    rw [List.length_map]
    exact len
  · exact Nat.le_trans (Nat.le_trans (by omega) (Nat.mul_le_mul_left _ p1)) len
theorem tree_low {H : Hp} {u : V} {r0 : List Nd} {k : Nat} (up : ∀ j, j < k → 1 < (nx j r0).length) (ne : nx k r0 ≠ []) (T : TreeL K H u k (nx k r0)) : TreeL K H u 0 r0 := by
  obtain ⟨n, s, h1, h2, h3, h4, h5, h6⟩ := T
  refine ⟨n, k + s, h1, by rw [Nat.zero_add]; exact h2, by omega, h4, by rw [nx_add]; exact h5, ?_⟩
  rcases h6 with ⟨z, _⟩ | ⟨_, s', e, h7, h8⟩
  · exact absurd z ne
  have es : s' = s := by omega
  subst es
  refine .inr ⟨fun z => ?_, k + s', rfl, by rw [nx_add]; exact h7, fun j hj => ?_⟩
  · cases k with
    | zero => exact ne z
    | succ k =>
      have := up 0 (by omega)
      have e0 : nx 0 r0 = r0 := rfl
      rw [e0, z] at this
      cases this
  · rcases Nat.lt_or_ge j k with c | c
    · exact up j c
    · obtain ⟨i, rfl⟩ : ∃ i, j = k + i := ⟨j - k, by omega⟩
      rw [nx_add]
      exact h8 i (by omega)
abbrev nmRep : List Str := ["runs", "times", "head", "period", "many", "tail"]
theorem scRepF : FnScope nmRep ["runs", "times"] (defScope s_repeated) := ⟨rfl, rfl, rfl, by decide +kernel, rfl, by decide +kernel, by decide +kernel⟩
/-- the row of the elements of runs, written so often -/
noncomputable def row0 (X : List Nd) : List Nd := (grp X).map mkRun
def spRepF (K : PySem.W.Frag) : Sp := fun vs H Q _ => ∃ (a : Addr) (ws : List V) (gs : List (Nd × Nat)) (n : Nat), vs = [.ref a, .int (n : Nat)] ∧ SqT K H a ws ∧ PrsV K H ws gs ∧ Giv gs ∧ gs ≠ [] ∧ gs.length ≤ 40 ∧ 1 ≤ n ∧ (xp gs).length * n ≤ 10 ^ 60 ∧
  ∀ H' u, Same H H' → TreeL K H' u 0 (row0 (cop n (xp gs))) → Q u H'
theorem cop_length {α : Type} (X : List α) (n : Nat) : (cop n X).length = X.length * n := by rw [cop_len, Nat.mul_comm]
theorem ok_repf (X : Facts K mg) : FnOk P w K mg base CX0 30 X.urepeated X.vrepeated ["runs", "times"] (spRepF K) := by
  have GW := ok_wr (P := P) (w := w) (base := base) X
  have GC := ok_cutf (P := P) (w := w) (base := base) X
  have GT := base_tree (P := P) (w := w) (base := base) X
  refine X.frepeated.ok scRepF (fun vs H Q E h => ?_) (fun cdv A outer s H vs Q E hr h => ?_)
  · obtain ⟨a, ws, gs, n, rfl, _⟩ := h
    rfl
  · obtain ⟨a, ws, gs, n, rfl, ha, ka, giv, gne, l40, n1, big, q⟩ := h
    have r2 := hr.mono (j := 2) (by omega)
    have r28 := hr.mono (j := 28) (by omega)
    refine ⟨_, pss_cons (ps_asg (pe_call GW r2 (by rfl) X.gwith_runs X.fwith_runs.kp X.bwith_runs .nil pass0 (pa_cons (pe_tup pa_nil) (pa_cons (pv 0) (pa_cons (pv 1) (pa_cons (pe_tup pa_nil) pa_nil)))))
        (pg_tup rfl (pgs_cons (pg_name (i := 2) scRepF.nd rfl (.inl rfl)) (pgs_cons (pg_name (i := 3) scRepF.nd rfl (.inl rfl)) (pgs_cons (pg_name (i := 4) scRepF.nd rfl (.inl rfl)) (pgs_cons (pg_name (i := 5) scRepF.nd rfl (.inl rfl)) pgs_nil))))))
      (pss_cons (ps_while PassesOwn.never (pt_cmpR op_ge (pv 4) (pe_glob (v := .int 6) (by rfl) X.SHOWN ⟨_, rfl⟩) (nomark _))
        (pss_cons (ps_asg (pe_call GC r28 (by rfl) X.gcut X.fcut.kp X.bcut .nil pass0 (pa_cons (pv 2) (pa_cons (pv 3) (pa_cons (pv 4) (pa_cons (pv 5) pa_nil)))))
          (pg_tup rfl (pgs_cons (pg_name (i := 2) scRepF.nd rfl (.inl rfl)) (pgs_cons (pg_name (i := 3) scRepF.nd rfl (.inl rfl)) (pgs_cons (pg_name (i := 4) scRepF.nd rfl (.inl rfl)) (pgs_cons (pg_name (i := 5) scRepF.nd rfl (.inl rfl)) pgs_nil))))))
        (pss_one (ps_asg (pe_call GW r2 (by rfl) X.gwith_runs X.fwith_runs.kp X.bwith_runs .nil pass0 (pa_cons (pv 2) (pa_cons (pv 3) (pa_cons (pv 4) (pa_cons (pv 5) pa_nil)))))
          (pg_tup rfl (pgs_cons (pg_name (i := 2) scRepF.nd rfl (.inl rfl)) (pgs_cons (pg_name (i := 3) scRepF.nd rfl (.inl rfl)) (pgs_cons (pg_name (i := 4) scRepF.nd rfl (.inl rfl)) (pgs_cons (pg_name (i := 5) scRepF.nd rfl (.inl rfl)) pgs_nil)))))))))
      (pss_one (ps_ret (pe_call GT hr (by rfl) X.gtree_of X.ftree_of.kp X.btree_of .nil pass0 (pa_cons (pe_op op_catA (pe_op op_catA (pv 2) (pe_op op_repTA (pv 3) (pv 4))) (pv 5)) pa_nil))))), ?_⟩
    have g1 : ∀ y ∈ gs, 1 ≤ y.2 := fun y hy => (giv.1 y hy).2.1
    have gok : ∀ y ∈ gs, Ok y.1 0 ∧ y.1.isRun = false := fun y hy => by
      obtain ⟨⟨k, e, hk⟩, _⟩ := giv.1 y hy
      rw [e]
      refine ⟨?_, rfl⟩
      unfold Ok
      exact ⟨rfl, hk⟩
    have x1 : 1 ≤ (xp gs).length := Nat.le_trans (List.length_pos_iff.mpr gne) (len_xp g1)
    have n60 : n ≤ 10 ^ 60 := Nat.le_trans (by have := Nat.mul_le_mul_right n x1; omega) big
    have x60 : (xp gs).length ≤ 10 ^ 60 := Nat.le_trans (by have := Nat.mul_le_mul_left (xp gs).length n1; omega) big
    refine ⟨(show 0 ≤ sizeLine from by decide), fun t1 m1 => ⟨_, rfl, _, rfl, (show 0 ≤ sizeLine from by decide), fun t2 m2 => ?_⟩⟩
    have s1 := sameN (o := .tup []) m1
    have s2 := sameN (o := .tup []) m2
    have s12 := s1.trans s2
    have em : ∀ y ∈ [] ++ gs ++ [], y ∈ gs := fun y hy => by simpa using hy
    refine ⟨t1, a, t2, [], ws, [], [], gs, [], n, 0, rfl, sameT s2 (.inl (.inl upd_same)), .nil, sameT s12 ha, PrsV.up (.of s12) ka, .inl (.inl upd_same), .nil, by decide, fun y hy => ⟨(gok y (em y hy)).1, g1 y (em y hy)⟩, gne, n1, n60, by decide, by omega, by decide, x60, fun H3 r h p m t s3 w1 sv => ?_⟩
    obtain ⟨ah, ap, at', wa, wb, wc, hr3, d1, d2, d3, d4, d5, d6⟩ := sv
    have S0 : St (row0 (cop n (xp gs))) 0 h p m t := by
      refine wr_st (X := cop n (xp gs)) (fun y hy => g1 y (em y hy)) gne n1 (fun y hy => gok y (em y hy)) ?_ rfl (by rw [cop_length]; exact big) x60 ?_ ?_ (fun j hj => absurd hj (Nat.not_lt_zero _)) (by decide) w1
      · rw [List.nil_append, List.append_nil, xp_cop]
      · show (0 + gs.length + 0) * 2 ^ 0 ≤ 40 + 240 * 0
        omega
      · show gs.length * 2 ^ 0 ≤ 40
        omega
    have mn : m ≤ n := by
      rcases w1 with ⟨_, _, _, _, e, _⟩ | ⟨_, _, _, _, _, _, e, _⟩
      · omega
      · omega
    refine ⟨r, _, rfl, hr3, rfl, _, _, rfl, _, _, rfl, _, _, rfl, _, [], rfl, rfl, ?_⟩
    refine ⟨fun m' σ H' => ∃ k h p t ah ap ac, σ = [some (.ref a), some (.int (n : Nat)), some (.ref ah), some (.ref ap), some (.int (m' : Nat)), some (.ref ac)] ∧ St (row0 (cop n (xp gs))) k h p m' t ∧ m' ≤ n ∧ Tri K H' ah ap ac h p t ∧ Same H H',
      ⟨m, 0, h, p, t, ah, ap, at', rfl, S0, mn, ⟨wa, wb, wc, d1, d2, d3, d4, d5, d6⟩, s12.trans s3⟩, ?_⟩
    clear S0 mn w1 d1 d2 d3 d4 d5 d6 hr3 h p m t
    rintro m σ H4 ⟨k, h, p, t, bh, bp, bc, rfl, S, mn, T, s4⟩
    refine ⟨_, rfl, _, _, rfl, rfl, _, rfl, ite2 (fun e => ?_) (fun e => ?_)⟩
    · have m6 : 6 ≤ m := by
        have := of_decide_eq_true e
        omega
      obtain ⟨p2, k4, ok6, un6, l6, e6, emm⟩ := st_row S m6
      refine ⟨fun σ' H' => ∃ m2 k h p t ah ap ac, m2 < m ∧ σ' = [some (.ref a), some (.int (n : Nat)), some (.ref ah), some (.ref ap), some (.int (m2 : Nat)), some (.ref ac)] ∧ St (row0 (cop n (xp gs))) k h p m2 t ∧ m2 ≤ n ∧ Tri K H' ah ap ac h p t ∧ Same H H',
        fun σ' H' hN => ?_, ?_⟩
      · obtain ⟨m2, k2, h2, p2', t2', z1, z2, z3, lt, i1⟩ := hN
        exact ⟨m2, lt, k2, h2, p2', t2', z1, z2, z3, i1⟩
      obtain ⟨wa, wb, wc, d1, d2, d3, d4, d5, d6⟩ := T
      refine ⟨_, rfl, _, rfl, _, rfl, _, rfl, bh, bp, bc, wa, wb, wc, h, p, t, m, k, rfl, d1, d2, d3, d4, d5, d6, ok6, un6, k4, l6, p2, m6, fun H5 r5 pq Aa Bb Cc pa pb pc s5 U sv => ?_⟩
      obtain ⟨c1, c2, c3, va, vb, vc, hr5, f1, f2, f3, f4, f5, f6⟩ := sv
      obtain ⟨oks, bne, la, lb, lc, xb⟩ := st_made S m6 U
      refine ⟨r5, _, rfl, hr5, rfl, _, _, rfl, _, _, rfl, _, _, rfl, _, [], rfl, rfl, ?_⟩
      refine ⟨_, rfl, _, rfl, _, rfl, _, rfl, c1, c2, c3, va, vb, vc, ones Aa, ones Bb, ones Cc, m - 5, k + 1, rfl, f1, f2, f3, f4, f5, f6, by omega, oks, bne, by omega, by omega, la, lb, lc, xb, fun H6 r6 h6 p6 m6' t6 s6 w6 sv6 => ?_⟩
      obtain ⟨e1, e2, e3, xa, xb', xc, hr6, g1', g2, g3, g4, g5, g6⟩ := sv6
      have S6 := st_next S m6 U w6
      have ml : m6' < m ∧ m6' ≤ n := by
        rcases w6 with ⟨_, _, _, _, e, _⟩ | ⟨_, _, _, _, _, _, e, _⟩
        · omega
        · omega
      exact ⟨r6, _, rfl, hr6, rfl, _, _, rfl, _, _, rfl, _, _, rfl, _, [], rfl, rfl, m6', k + 1, h6, p6, t6, e1, e2, e3, ml.1, rfl, S6, ml.2, ⟨xa, xb', xc, g1', g2, g3, g4, g5, g6⟩, s4.trans (s5.trans s6)⟩
    · have m5 : m ≤ 5 := by
        have : ¬ (6 : Int) ≤ (m : Int) := fun z => e (decide_eq_true z)
        omega
      obtain ⟨lv, l14⟩ := st_end S m5
      obtain ⟨wa, wb, wc, d1, d2, d3, d4, d5, d6⟩ := T
      have lwa := PrsV.len d2
      have lwb := PrsV.len d4
      have lwc := PrsV.len d6
      have ll := l14
      rw [List.length_append, List.length_append, cop_len] at ll
      have p40 : p.length ≤ 40 := by
        have p1 : 1 ≤ 2 ^ k := Nat.one_le_two_pow
        have := Nat.mul_le_mul_left p.length p1
        have := S.szP
        omega
      refine ⟨_, rfl, _, rfl, _, rfl, bp, (m : Int), wb, rfl, rfl, d3, by omega, by omega, by omega, fun H5 t5 s5 h5 => ?_⟩
      rw [Int.toNat_natCast] at h5
      refine cat_any (sameT s5 d1) h5 ?_ fun H6 t6 s6 h6 => ?_
      · rw [PyProof.Rows.lm_len_rep_flat, lwa, lwb]
        exact Nat.le_trans (show h.length + m * p.length ≤ 1440 by omega) (by decide)
      have s46 := s5.trans s6
      refine ⟨_, rfl, cat_any h6 (sameT s46 d5) ?_ fun H7 t7 s7 h7 => ?_⟩
      · rw [List.length_append, PyProof.Rows.lm_len_rep_flat, lwa, lwb, lwc]
        exact Nat.le_trans ll (by decide)
      have s47 := s46.trans s7
      have kall : PrsV K H7 (wa ++ (List.replicate m wb).flatten ++ wc) (h ++ cop m p ++ t) := ((PrsV.up (.of s47) d2).app (prsV_reps (PrsV.up (.of s47) d4) m)).app (PrsV.up (.of s47) d6)
      refine ⟨t7, _, _, k, rfl, h7, kall, S.some, lv, l14, fun H8 u s8 hT => q H8 u (s4.trans (s47.trans s8)) (tree_low S.up (fun z => ?_) (by rw [← S.row]; exact hT))⟩
      have := lv.2.2.1
      have e0 : nx 0 ((h ++ cop m p ++ t).map mkRun) = (h ++ cop m p ++ t).map mkRun := rfl
      rw [e0, S.row, z] at this
      cases this
end
end C62

set_option Elab.async false
set_option linter.all false
set_option maxRecDepth 100000
namespace C62
open PySem PySem.Spec PyProof.Rows L2 Loc RZ
section
variable {P : Program} {w : World} {K : PySem.W.Frag} {mg : Str → Option Value} {base : Heap}
theorem scBase : FnScope ["node"] ["node"] (defScope sBase) := ⟨rfl, rfl, rfl, by decide +kernel, rfl, by decide +kernel, by decide +kernel⟩
theorem scLevel : FnScope ["node", "level", "below"] ["node"] (defScope sLevel) := ⟨rfl, rfl, rfl, by decide +kernel, rfl, by decide +kernel, by decide +kernel⟩
def spBase (K : PySem.W.Frag) : Sp := fun vs H Q _ => ∃ v n, vs = [v] ∧ NdV K H v n ∧ ∀ H' v', Same H H' → NdV K H' v' n.base → Q v' H'
def spLevel (K : PySem.W.Frag) : Sp := fun vs H Q _ => ∃ v n l, vs = [v] ∧ NdV K H v n ∧ Ok n l ∧ ∀ H', Same H H' → Q (.int l) H'
theorem ok_base {f g : Addr} {fd gd : FuncData} {k : Nat} (F : Fun K "base_of" "base_of" sBase f fd) (R : Fun K "is_run" "is_run" sIsRun g gd) (gR : mg "is_run" = some (.ref g)) (bR : Binds K gd ["value"] []) (mi : mg "isinstance" = none) (mt : mg "tuple" = none) :
    FnOk P w K mg base CX0 (k + 2) f fd ["node"] (spBase K) := by
  have GR : FnOk P w K mg base CX0 (k + 1) g gd ["value"] (spIsRun K) := ok_isrun R mi mt
  refine F.ok scBase (fun vs H Q E h => ?_) (fun cdv A outer s H vs Q E hr h => ?_)
  · obtain ⟨v, n, rfl, _⟩ := h
    rfl
  · obtain ⟨v, n, rfl, hn, q⟩ := h
    refine ⟨_, pss_cons (ps_if (pt_val (pe_call GR hr (by rfl) gR R.kp bR .nil pass0 (pa_cons (pv 0) pa_nil))) (pss_one (ps_ret (pe_ix ix_tup (pv 0) pe_int (fun _ _ => rfl)))) pss_nil) (pss_one (ps_ret (pv 0))), ?_⟩
    refine ⟨v, rfl, v, n, rfl, hn, fun H1 s1 => ?_⟩
    have hn1 := hn.up (.of s1)
    cases n with
    | run b c =>
      obtain ⟨a, v2, rfl, h1, h2⟩ := hn1.run
      exact ⟨_, rfl, iteT ⟨.ref a, rfl, a, _, 1, v2, rfl, rfl, h1, rfl, q _ _ s1 h2⟩⟩
    | el n => exact ⟨_, rfl, iteF ⟨v, rfl, q _ _ s1 hn1⟩⟩
    | blk ps => exact ⟨_, rfl, iteF ⟨v, rfl, q _ _ s1 hn1⟩⟩
theorem ok_level {f g b c : Addr} {fd gd bd cd : FuncData} {k : Nat} (F : Fun K "level_of" "level_of" sLevel f fd) (C : Fun K "base_of" "base_of" sBase c cd) (gC : mg "base_of" = some (.ref c)) (bC : Binds K cd ["node"] [])
    (R : Fun K "is_run" "is_run" sIsRun g gd) (gR : mg "is_run" = some (.ref g)) (bR : Binds K gd ["value"] []) (B : Fun K "is_block" "is_block" sIsBlk b bd) (gB : mg "is_block" = some (.ref b)) (bB : Binds K bd ["value"] []) (mi : mg "isinstance" = none) (mt : mg "tuple" = none) :
    FnOk P w K mg base CX0 (k + 3) f fd ["node"] (spLevel K) := by
  have GC : FnOk P w K mg base CX0 (k + 2) c cd ["node"] (spBase K) := ok_base C R gR bR mi mt
  have GB : FnOk P w K mg base CX0 (k + 2) b bd ["value"] (spIsBlk K) := ok_isblk B mi mt
  refine F.ok scLevel (fun vs H Q E h => ?_) (fun cdv A outer s H vs Q E hr h => ?_)
  · obtain ⟨v, n, l, rfl, _⟩ := h
    rfl
  · obtain ⟨v, n, l, rfl, hn, ok, q⟩ := h
    refine ⟨_, pss_cons (ps_set (i := 1) scLevel.nd rfl (.inl rfl) pe_int)
      (pss_cons (ps_set (i := 2) scLevel.nd rfl (.inl rfl) (pe_call GC hr (by rfl) gC C.kp bC .nil pass0 (pa_cons (pv 0) pa_nil)))
      (pss_cons (ps_while PassesOwn.never (pt_val (pe_call GB hr (by rfl) gB B.kp bB .nil pass0 (pa_cons (pv 2) pa_nil)))
        (pss_cons (ps_aug (i := 1) scLevel.nd rfl (.inl rfl) pe_int ip_add)
        (pss_one (ps_set (i := 2) scLevel.nd rfl (.inl rfl) (pe_call GC hr (by rfl) gC C.kp bC .nil pass0 (pa_cons (pe_ix ix_tup (pe_ix ix_tup (pv 2) pe_int (fun _ _ => rfl)) pe_int (fun _ _ => rfl)) pa_nil))))))
      (pss_one (ps_ret (pv 1))))), ?_⟩
    refine ⟨v, rfl, v, n, rfl, hn, fun H1 v1 s1 h1 => ?_⟩
    obtain ⟨okb, nrb⟩ := ok.base
    refine ⟨fun m σ H' => ∃ (i : Nat) (u : V) (x : Nd), i + m = l ∧ σ = [some v, some (.int i), some u] ∧ NdV K H' u x ∧ Ok x m ∧ x.isRun = false ∧ Same H H', ⟨l, 0, v1, n.base, Nat.zero_add _, rfl, h1, okb, nrb, s1⟩, ?_⟩
    rintro m σ H2 ⟨i, u, x, im, rfl, k1, k2, k3, s2⟩
    refine ⟨u, rfl, u, x, rfl, k1, fun H3 s3 => ⟨_, rfl, ?_⟩⟩
    have k1' := k1.up (.of s3)
    cases x with
    | run b c => cases k3
    | el e =>
      unfold Ok at k2
      refine iteF ⟨_, rfl, ?_⟩
      have : i = l := by omega
      rw [this]
      exact q _ (s2.trans s3)
    | blk ps =>
      unfold Ok at k2
      obtain ⟨m1, m2, m3, m4, _⟩ := k2
      obtain ⟨a, bb, vs, rfl, t1, t2, t3⟩ := k1'.blk
      obtain ⟨y, hy⟩ := get_of (l := ps) (i := 0) (by omega)
      obtain ⟨z, hz, kz⟩ := t3.at hy
      have oky := m4.mem y (List.mem_of_getElem? hy)
      refine iteT ⟨fun σ' H' => ∃ (u : V) (x : Nd), σ' = [some v, some (.int ((i + 1 : Nat) : Int)), some u] ∧ NdV K H' u x ∧ Ok x (m - 1) ∧ x.isRun = false ∧ Same H H', fun σ' H' hN => ?_, ?_⟩
      · obtain ⟨u', x', j1, j2⟩ := hN
        exact ⟨m - 1, by omega, i + 1, u', x', by omega, j1, j2⟩
      · refine ⟨_, rfl, i, 1, rfl, rfl, .ref a, rfl, a, _, 1, .ref bb, rfl, rfl, t1, rfl, bb, _, 0, z, rfl, rfl, t2, atI_nat (j := 0) hz, z, y, rfl, kz, fun H4 v4 s4 h4 => ⟨v4, y.base, ?_, h4, oky.base.1, oky.base.2, s2.trans (s3.trans s4)⟩⟩
        rw [Int.natCast_add]
        rfl
end
/-! ### is_node -/
section
variable {P : Program} {w : World} {K : PySem.W.Frag} {mg : Str → Option Value} {base : Heap}
theorem scWhole : FnScope ["value"] ["value"] (defScope sWhole) := ⟨rfl, rfl, rfl, by decide +kernel, rfl, by decide +kernel, by decide +kernel⟩
theorem scElement : FnScope ["value"] ["value"] (defScope sElement) := ⟨rfl, rfl, rfl, by decide +kernel, rfl, by decide +kernel, by decide +kernel⟩
theorem scCount : FnScope ["value", "least"] ["value", "least"] (defScope sCount) := ⟨rfl, rfl, rfl, by decide +kernel, rfl, by decide +kernel, by decide +kernel⟩
theorem scIsNode : FnScope ["value"] ["value"] (defScope sIsNode) := ⟨rfl, rfl, rfl, by decide +kernel, rfl, by decide +kernel, by decide +kernel⟩
theorem scParts : FnScope ["values", "value"] ["values"] (defScope sParts) := ⟨rfl, rfl, rfl, by decide +kernel, rfl, by decide +kernel, by decide +kernel⟩
theorem scFit : FnScope ["nodes", "at"] ["nodes"] (defScope sFit) := ⟨rfl, rfl, rfl, by decide +kernel, rfl, by decide +kernel, by decide +kernel⟩
def spWhole : Sp := fun vs H Q _ => ∃ z : Int, vs = [.int z] ∧ Q (.bl true) H
def spElement : Sp := fun vs H Q _ => ∃ z : Int, vs = [.int z] ∧ 0 ≤ z ∧ z ≤ 10 ^ 9 ∧ Q (.bl true) H
def spCount : Sp := fun vs H Q _ => ∃ z l : Int, vs = [.int z, .int l] ∧ l ≤ z ∧ z ≤ 10 ^ 60 ∧ Q (.bl true) H
def spIsNode (K : PySem.W.Frag) (m : Nat) : Sp := fun vs H Q _ => ∃ v n l, vs = [v] ∧ NdV K H v n ∧ Ok n l ∧ l ≤ 20 ∧ ht n < m ∧ ∀ H', Same H H' → Q (.bl true) H'
def spParts (K : PySem.W.Frag) (m : Nat) : Sp := fun vs H Q _ => ∃ a us ns l, vs = [.ref a] ∧ SqT K H a us ∧ NdsV K H us ns ∧ OkAll ns l ∧ Unb ns ∧ 2 ≤ ns.length ∧ ns.length ≤ 3 ∧ l ≤ 20 ∧ (∀ n ∈ ns, ht n < m) ∧ ∀ H', Same H H' → Q (.bl true) H'
def spFit (K : PySem.W.Frag) : Sp := fun vs H Q _ => ∃ a us ns l, vs = [.ref a] ∧ SqT K H a us ∧ NdsV K H us ns ∧ OkAll ns l ∧ Unb ns ∧ ns.length ≤ 3 ∧ l ≤ 20 ∧ ∀ H', Same H H' → Q (.bl true) H'
theorem ok_whole {f : Addr} {fd : FuncData} {k : Nat} (F : Fun K "is_whole" "is_whole" sWhole f fd) (mi : mg "isinstance" = none) (mn : mg "int" = none) (mb : mg "bool" = none) : FnOk P w K mg base CX0 (k + 1) f fd ["value"] spWhole := by
  refine F.ok scWhole (fun vs H Q E h => ?_) (fun cdv A outer s H vs Q E hr h => ?_)
  · obtain ⟨z, rfl, _⟩ := h
    rfl
  · obtain ⟨z, rfl, q⟩ := h
    refine ⟨_, pss_one (ps_ret (pe_and (pe_callB call_isi (by rfl) mi PyProof.Rows.boot_isinstance (pa_cons (pv 0) (pa_cons (pe_bltn (v := .ty "int") (by rfl) mn (by decide +kernel) rfl) pa_nil)))
      (pe_one (pe_not (pe_callB call_isi (by rfl) mi PyProof.Rows.boot_isinstance (pa_cons (pv 0) (pa_cons (pe_bltn (v := .ty "bool") (by rfl) mb (by decide +kernel) rfl) pa_nil))))))), ?_⟩
    exact ⟨_, rfl, _, _, _, _, true, rfl, .ty "int", .base (.int _), kit_ty (by decide +kernel), _, rfl, _, rfl, _, _, _, _, false, rfl, .ty "bool", .base (.int _), kit_ty (by decide +kernel), _, rfl, q⟩
theorem ok_element {f g : Addr} {fd gd : FuncData} {k : Nat} (F : Fun K "is_element" "is_element" sElement f fd) (W : Fun K "is_whole" "is_whole" sWhole g gd) (gW : mg "is_whole" = some (.ref g)) (bW : Binds K gd ["value"] [])
    (mi : mg "isinstance" = none) (mn : mg "int" = none) (mb : mg "bool" = none) : FnOk P w K mg base CX0 (k + 2) f fd ["value"] spElement := by
  have GW : FnOk P w K mg base CX0 (k + 1) g gd ["value"] spWhole := ok_whole W mi mn mb
  refine F.ok scElement (fun vs H Q E h => ?_) (fun cdv A outer s H vs Q E hr h => ?_)
  · obtain ⟨z, rfl, _⟩ := h
    rfl
  · obtain ⟨z, rfl, h1, h2, q⟩ := h
    refine ⟨_, pss_one (ps_ret (pe_and (pe_call GW hr (by rfl) gW W.kp bW .nil pass0 (pa_cons (pv 0) pa_nil)) (pe_one (pe_chain op_le op_le pe_int (pv 0) (pe_op op_pow pe_int pe_int))))), ?_⟩
    refine ⟨_, rfl, z, rfl, _, rfl, _, rfl, 0, z, rfl, rfl, _, rfl, ?_⟩
    rw [decide_eq_true h1]
    refine ⟨10, 9, rfl, rfl, ⟨by decide, by decide, by decide⟩, _, _, rfl, rfl, ?_⟩
    show Q (.bl (decide (z ≤ (10 : Int) ^ (9 : Int).toNat))) H
    rw [decide_eq_true (show z ≤ (10 : Int) ^ (9 : Int).toNat from h2)]
    exact q
theorem ok_count {f g : Addr} {fd gd : FuncData} {k : Nat} (F : Fun K "is_count" "is_count" sCount f fd) (W : Fun K "is_whole" "is_whole" sWhole g gd) (gW : mg "is_whole" = some (.ref g)) (bW : Binds K gd ["value"] [])
    (mi : mg "isinstance" = none) (mn : mg "int" = none) (mb : mg "bool" = none) : FnOk P w K mg base CX0 (k + 2) f fd ["value", "least"] spCount := by
  have GW : FnOk P w K mg base CX0 (k + 1) g gd ["value"] spWhole := ok_whole W mi mn mb
  refine F.ok scCount (fun vs H Q E h => ?_) (fun cdv A outer s H vs Q E hr h => ?_)
  · obtain ⟨z, l, rfl, _⟩ := h
    rfl
  · obtain ⟨z, l, rfl, h1, h2, q⟩ := h
    refine ⟨_, pss_one (ps_ret (pe_and (pe_call GW hr (by rfl) gW W.kp bW .nil pass0 (pa_cons (pv 0) pa_nil)) (pe_one (pe_chain op_le op_le (pv 1) (pv 0) (pe_op op_pow pe_int pe_int))))), ?_⟩
    refine ⟨_, rfl, z, rfl, _, rfl, _, rfl, _, rfl, l, z, rfl, rfl, _, rfl, ?_⟩
    rw [decide_eq_true h1]
    refine ⟨10, 60, rfl, rfl, ⟨by decide, by decide, by decide⟩, _, _, rfl, rfl, ?_⟩
    show Q (.bl (decide (z ≤ (10 : Int) ^ (60 : Int).toNat))) H
    rw [decide_eq_true (show z ≤ (10 : Int) ^ (60 : Int).toNat from h2)]
    exact q
theorem unb_get : ∀ {ns : List Nd} {i : Nat} {x y : Nd}, Unb ns → ns[i]? = some x → ns[i + 1]? = some y → x.base ≠ y.base
  | [], i, x, y, _, h, _ => by simp at h
  | [a], i, x, y, _, h, k => by simp at k
  | a :: b :: r, 0, x, y, u, h, k => by
    have e1 : a = x := by simpa using h
    have e2 : b = y := by simpa using k
    rw [← e1, ← e2]
    exact u.1
  | a :: b :: r, i + 1, x, y, u, h, k => unb_get (ns := b :: r) (i := i) u.2 (by simpa using h) (by simpa using k)
/-- what the names of the defs below is_node hold -/
structure NodeF (K : PySem.W.Frag) (mg : Str → Option Value) (hA hB hC hD hW hL hM hN hO hP : Addr) (eA eB eC eD eW eL eM eN eO eP : FuncData) : Prop where
  A : Fun K "is_run" "is_run" sIsRun hA eA
  B : Fun K "is_block" "is_block" sIsBlk hB eB
  C : Fun K "base_of" "base_of" sBase hC eC
  D : Fun K "level_of" "level_of" sLevel hD eD
  W : Fun K "is_whole" "is_whole" sWhole hW eW
  L : Fun K "is_element" "is_element" sElement hL eL
  M : Fun K "is_count" "is_count" sCount hM eM
  N : Fun K "is_node" "is_node" sIsNode hN eN
  O : Fun K "_can_be_parts" "_can_be_parts" sParts hO eO
  P : Fun K "_fit_together" "_fit_together" sFit hP eP
  gA : mg "is_run" = some (.ref hA)
  gB : mg "is_block" = some (.ref hB)
  gC : mg "base_of" = some (.ref hC)
  gD : mg "level_of" = some (.ref hD)
  gW : mg "is_whole" = some (.ref hW)
  gL : mg "is_element" = some (.ref hL)
  gM : mg "is_count" = some (.ref hM)
  gN : mg "is_node" = some (.ref hN)
  gO : mg "_can_be_parts" = some (.ref hO)
  gP : mg "_fit_together" = some (.ref hP)
  bA : Binds K eA ["value"] []
  bB : Binds K eB ["value"] []
  bC : Binds K eC ["node"] []
  bD : Binds K eD ["node"] []
  bW : Binds K eW ["value"] []
  bL : Binds K eL ["value"] []
  bM : Binds K eM ["value", "least"] []
  bN : Binds K eN ["value"] []
  bO : Binds K eO ["values"] []
  bP : Binds K eP ["nodes"] []
  isinstance : mg "isinstance" = none
  int : mg "int" = none
  bool : mg "bool" = none
  tuple : mg "tuple" = none
  len : mg "len" = none
  range : mg "range" = none
variable {hA hB hC hD hW hL hM hN hO hP : Addr} {eA eB eC eD eW eL eM eN eO eP : FuncData}
theorem ok_fit (X : NodeF K mg hA hB hC hD hW hL hM hN hO hP eA eB eC eD eW eL eM eN eO eP) : FnOk P w K mg base CX0 4 hP eP ["nodes"] (spFit K) := by
  have GC : FnOk P w K mg base CX0 3 hC eC ["node"] (spBase K) := ok_base X.C X.A X.gA X.bA X.isinstance X.tuple
  have GD : FnOk P w K mg base CX0 3 hD eD ["node"] (spLevel K) := ok_level X.D X.C X.gC X.bC X.A X.gA X.bA X.B X.gB X.bB X.isinstance X.tuple
  refine X.P.ok scFit (fun vs H Q E h => ?_) (fun cdv A outer s H vs Q E hr h => ?_)
  · obtain ⟨a, us, ns, l, rfl, _⟩ := h
    rfl
  · obtain ⟨a, us, ns, l, rfl, hT, hN, ok, un, len, l2, q⟩ := h
    refine ⟨_, pss_cons (ps_for PassesOwn.never rfl (pi_range2 (by rfl) X.range (pa_cons pe_int (pa_cons (pe_callB call_len_seq (by rfl) X.len PySem.boot_len (pa_cons (pv 0) pa_nil)) pa_nil))) (pg_name (i := 1) scFit.nd rfl (.inl rfl))
        (pss_one (ps_if (PW.pt (pw_or (pt_cmpR op_ne (pe_call GD hr (by rfl) X.gD X.D.kp X.bD .nil pass0 (pa_cons (pe_ix ix_tup (pv 0) (pe_op op_sub (pv 1) pe_int) (fun _ _ => rfl)) pa_nil)) (pe_call GD hr (by rfl) X.gD X.D.kp X.bD .nil pass0 (pa_cons (pe_ix ix_tup (pv 0) (pv 1) (fun _ _ => rfl)) pa_nil)) (nomark _))
            (pw_or1 (pt_cmpR (op_eqD hr.units) (pe_call GC hr (by rfl) X.gC X.C.kp X.bC .nil pass0 (pa_cons (pe_ix ix_tup (pv 0) (pe_op op_sub (pv 1) pe_int) (fun _ _ => rfl)) pa_nil)) (pe_call GC hr (by rfl) X.gC X.C.kp X.bC .nil pass0 (pa_cons (pe_ix ix_tup (pv 0) (pv 1) (fun _ _ => rfl)) pa_nil)) (nomark _)))))
          (pss_one (ps_ret pe_bl)) pss_nil)))
      (pss_one (ps_ret pe_bl)), ?_⟩
    have hlu := hN.len
    refine ⟨.ref a, rfl, a, us, rfl, .inr hT, 1, _, rfl, ⟨by decide, by decide, by omega, by omega⟩, ?_⟩
    have n0 : (((us.length : Nat) : Int) - 1).toNat = ns.length - 1 := by omega
    refine for_range (fun i σ H' => ∃ y, σ = [some (.ref a), y] ∧ Same H H') ⟨none, rfl, Same.refl H⟩ (fun i σ H' hi hp => ?_) (fun σ H' hp => ?_)
    · obtain ⟨y, rfl, s1⟩ := hp
      rw [n0] at hi
      obtain ⟨x, hx⟩ := get_of (l := ns) (i := i) (by omega)
      obtain ⟨z, hz⟩ := get_of (l := ns) (i := i + 1) (by omega)
      have hT1 := sameT s1 hT
      have hN1 := hN.up (.of (K := K) s1)
      obtain ⟨u, eu, ku⟩ := hN1.at hx
      obtain ⟨v, ev, kv⟩ := hN1.at hz
      have okx := ok.mem x (List.mem_of_getElem? hx)
      have okz := ok.mem z (List.mem_of_getElem? hz)
      have ne := unb_get un hx hz
      refine ⟨.ref a, rfl, _, rfl, _, 1, rfl, rfl, a, us, ((i : Nat) : Int), u, rfl, int_congr (by omega), hT1, atI_nat eu, u, x, l, rfl, ku, okx, fun H2 s2 => ?_⟩
      refine ⟨.ref a, rfl, _, rfl, a, us, ((i + 1 : Nat) : Int), v, rfl, int_congr (by omega), sameT s2 hT1, atI_nat ev, v, z, l, rfl, kv.up (.of s2), okz, fun H3 s3 => ⟨rfl, _, rfl, ?_⟩⟩
      rw [decide_eq_true rfl]
      have s23 := s2.trans s3
      refine ⟨.ref a, rfl, _, rfl, _, 1, rfl, rfl, a, us, ((i : Nat) : Int), u, rfl, int_congr (by omega), sameT s23 hT1, atI_nat eu, u, x, rfl, ku.up (.of s23), fun H4 u4 s4 k4 => ?_⟩
      have s24 := s23.trans s4
      refine ⟨.ref a, rfl, _, rfl, a, us, ((i + 1 : Nat) : Int), v, rfl, int_congr (by omega), sameT s24 hT1, atI_nat ev, v, z, rfl, kv.up (.of s24), fun H5 v5 s5 k5 => ⟨_, _, k4.up (.of s5), k5, shaped_dat okx.base.1 l2, shaped_dat okz.base.1 l2, _, rfl, ?_⟩⟩
      rw [eqv_no ne]
      exact iteF ⟨_, rfl, s1.trans (s24.trans s5)⟩
    · obtain ⟨y, rfl, s1⟩ := hp
      exact q _ s1
theorem ok_parts (X : NodeF K mg hA hB hC hD hW hL hM hN hO hP eA eB eC eD eW eL eM eN eO eP) {m k : Nat} (hk : 4 ≤ k) (GN : FnOk P w K mg base CX0 k hN eN ["value"] (spIsNode K m)) : FnOk P w K mg base CX0 (k + 1) hO eO ["values"] (spParts K m) := by
  have GP : FnOk P w K mg base CX0 4 hP eP ["nodes"] (spFit K) := ok_fit X
  refine X.O.ok scParts (fun vs H Q E h => ?_) (fun cdv A outer s H vs Q E hr h => ?_)
  · obtain ⟨a, us, ns, l, rfl, _⟩ := h
    rfl
  · obtain ⟨a, us, ns, l, rfl, hT, hN, ok, un, l1, l3, l2, hh, q⟩ := h
    have r4 := hr.mono (j := 4) (by omega)
    refine ⟨_, pss_cons (ps_if (pt_not (pt_chain op_le op_le pe_int (pe_callB call_len_seq (by rfl) X.len PySem.boot_len (pa_cons (pv 0) pa_nil)) pe_int)) (pss_one (ps_ret pe_bl)) pss_nil)
      (pss_cons (ps_for PassesOwn.never rfl (pi_tup (pv 0)) (pg_name (i := 1) scParts.nd rfl (.inl rfl))
        (pss_one (ps_if (pt_not (pt_val (pe_call GN hr (by rfl) X.gN X.N.kp X.bN .nil pass0 (pa_cons (pv 1) pa_nil)))) (pss_one (ps_ret pe_bl)) pss_nil)))
      (pss_one (ps_ret (pe_call GP r4 (by rfl) X.gP X.P.kp X.bP .nil pass0 (pa_cons (pv 0) pa_nil))))), ?_⟩
    have hlu := hN.len
    refine ⟨.ref a, rfl, a, us, rfl, .inr hT, 2, _, rfl, rfl, _, rfl, ?_⟩
    rw [decide_eq_true (show (2 : Int) ≤ ((us.length : Nat) : Int) by omega)]
    refine ⟨_, 3, rfl, rfl, _, rfl, ?_⟩
    rw [decide_eq_true (show ((us.length : Nat) : Int) ≤ 3 by omega)]
    refine iteF ?_
    refine ⟨.ref a, rfl, a, rfl, ⟨us, hT⟩, ?_⟩
    refine for_tup (xs := us) (fun i σ H' => ∃ y, σ = [some (.ref a), y] ∧ Same H H') ⟨none, rfl, Same.refl H⟩ (fun i σ H' _ hp => ?_) (fun i u σ H' hu hp => ?_) (fun σ H' hp => ?_)
    · obtain ⟨_, _, s1⟩ := hp
      exact sameT s1 hT
    · obtain ⟨y, rfl, s1⟩ := hp
      obtain ⟨x, hx, kx⟩ := (hN.up (.of (K := K) s1)).get hu
      have hmem := List.mem_of_getElem? hx
      exact ⟨u, rfl, u, x, l, rfl, kx, ok.mem x hmem, l2, hh x hmem, fun H2 s2 => ⟨_, rfl, iteF ⟨_, rfl, s1.trans s2⟩⟩⟩
    · obtain ⟨y, rfl, s1⟩ := hp
      exact ⟨.ref a, rfl, a, us, ns, l, rfl, sameT s1 hT, hN.up (.of s1), ok, un, l3, l2, fun H2 s2 => q _ (s1.trans s2)⟩
theorem ok_isnode (X : NodeF K mg hA hB hC hD hW hL hM hN hO hP eA eB eC eD eW eL eM eN eO eP) : ∀ m : Nat, FnOk P w K mg base CX0 (2 * m + 4) hN eN ["value"] (spIsNode K m)
  | 0 => ⟨fun vs H Q E h => by obtain ⟨v, n, l, _, _, _, _, h, _⟩ := h; exact absurd h (Nat.not_lt_zero _), fun A outer s H args us vs Q E _ _ _ _ h => by obtain ⟨v, n, l, _, _, _, _, h, _⟩ := h; exact absurd h (Nat.not_lt_zero _)⟩
  | m + 1 => by
    have GN : FnOk P w K mg base CX0 (2 * m + 4) hN eN ["value"] (spIsNode K m) := ok_isnode X m
    have GO : FnOk P w K mg base CX0 (2 * m + 5) hO eO ["values"] (spParts K m) := ok_parts X (by omega) GN
    have GA : FnOk P w K mg base CX0 1 hA eA ["value"] (spIsRun K) := ok_isrun X.A X.isinstance X.tuple
    have GB : FnOk P w K mg base CX0 1 hB eB ["value"] (spIsBlk K) := ok_isblk X.B X.isinstance X.tuple
    have GL : FnOk P w K mg base CX0 2 hL eL ["value"] spElement := ok_element X.L X.W X.gW X.bW X.isinstance X.int X.bool
    have GM : FnOk P w K mg base CX0 2 hM eM ["value", "least"] spCount := ok_count X.M X.W X.gW X.bW X.isinstance X.int X.bool
    refine X.N.ok (k := 2 * m + 5) scIsNode (fun vs H Q E h => ?_) (fun cdv A outer s H vs Q E hr h => ?_)
    · obtain ⟨v, n, l, rfl, _⟩ := h
      rfl
    · obtain ⟨v, n, l, rfl, hn, ok, l2, hh, q⟩ := h
      have r1 := hr.mono (j := 1) (by omega)
      have r2 := hr.mono (j := 2) (by omega)
      have rN := hr.mono (j := 2 * m + 4) (by omega)
      refine ⟨_, pss_cons (ps_if (pt_val (pe_call GA r1 (by rfl) X.gA X.A.kp X.bA .nil pass0 (pa_cons (pv 0) pa_nil)))
            (pss_one (ps_ret (pe_and (pe_cmpR op_eq (pe_callB call_len_seq (by rfl) X.len PySem.boot_len (pa_cons (pv 0) pa_nil)) pe_int (nomark _))
              (pe_and (pe_call GM r2 (by rfl) X.gM X.M.kp X.bM .nil pass0 (pa_cons (pe_ix ix_tup (pv 0) pe_int (fun _ _ => rfl)) (pa_cons pe_int pa_nil)))
              (pe_and (pe_not (pe_call GA r1 (by rfl) X.gA X.A.kp X.bA .nil pass0 (pa_cons (pe_ix ix_tup (pv 0) pe_int (fun _ _ => rfl)) pa_nil)))
              (pe_one (pe_call GN rN (by rfl) X.gN X.N.kp X.bN .nil pass0 (pa_cons (pe_ix ix_tup (pv 0) pe_int (fun _ _ => rfl)) pa_nil)))))))) pss_nil)
        (pss_cons (ps_if (pt_val (pe_call GB r1 (by rfl) X.gB X.B.kp X.bB .nil pass0 (pa_cons (pv 0) pa_nil)))
            (pss_one (ps_ret (pe_and (pe_cmpR op_eq (pe_callB call_len_seq (by rfl) X.len PySem.boot_len (pa_cons (pv 0) pa_nil)) pe_int (nomark _))
              (pe_and (pe_callB call_isi (by rfl) X.isinstance PyProof.Rows.boot_isinstance (pa_cons (pe_ix ix_tup (pv 0) pe_int (fun _ _ => rfl)) (pa_cons (pe_bltn (v := .ty "tuple") (by rfl) X.tuple PyProof.Rows.boot_tuple rfl) pa_nil)))
              (pe_one (pe_call GO hr (by rfl) X.gO X.O.kp X.bO .nil pass0 (pa_cons (pe_ix ix_tup (pv 0) pe_int (fun _ _ => rfl)) pa_nil))))))) pss_nil)
        (pss_one (ps_ret (pe_call GL r2 (by rfl) X.gL X.L.kp X.bL .nil pass0 (pa_cons (pv 0) pa_nil))))), ?_⟩
      refine ⟨v, rfl, v, n, rfl, hn, fun H1 s1 => ?_⟩
      have hn1 := hn.up (.of (K := K) s1)
      cases n with
      | run b c =>
        obtain ⟨a, v2, rfl, h1, h2⟩ := hn1.run
        unfold Ok at ok
        refine ⟨_, rfl, iteT ⟨.ref a, rfl, a, _, rfl, .inr h1, rfl, _, rfl, ?_⟩⟩
        refine ⟨.ref a, rfl, a, _, 2, .int c, rfl, rfl, h1, rfl, c, 2, rfl, by omega, ?_, _, rfl, ?_⟩
        · have := ok.2.1
          exact_mod_cast this
        refine ⟨.ref a, rfl, a, _, 1, v2, rfl, rfl, h1, rfl, v2, b, rfl, h2, fun H2 s2 => ⟨_, rfl, ?_⟩⟩
        rw [ok.2.2.1]
        refine ⟨_, rfl, ?_⟩
        refine ⟨.ref a, rfl, a, _, 1, v2, rfl, rfl, sameT s2 h1, rfl, v2, b, l, rfl, h2.up (.of s2), ok.2.2.2, l2, ?_, fun H3 s3 => q _ (s1.trans (s2.trans s3))⟩
        unfold ht at hh
        omega
      | el e =>
        have ev := hn1.el
        subst ev
        refine ⟨_, rfl, iteF ⟨_, rfl, _, .el e, rfl, hn1, fun H2 s2 => ⟨_, rfl, iteF ⟨_, rfl, e, rfl, by omega, ?_, q _ (s1.trans s2)⟩⟩⟩⟩
        unfold Ok at ok
        have := ok.2
        omega
      | blk ps =>
        refine ⟨_, rfl, iteF ⟨v, rfl, v, .blk ps, rfl, hn1, fun H2 s2 => ⟨_, rfl, iteT ?_⟩⟩⟩
        obtain ⟨a, bb, vs, rfl, t1, t2, t3⟩ := (hn1.up (.of (K := K) s2)).blk
        unfold Ok at ok
        refine ⟨.ref a, rfl, a, _, rfl, .inr t1, rfl, _, rfl, ?_⟩
        refine ⟨.ref a, rfl, a, _, 1, .ref bb, rfl, rfl, t1, rfl, _, _, _, _, true, rfl, .ty "tuple", Loc.SqT.ty t2, kit_ty (by decide +kernel), _, rfl, ?_⟩
        refine ⟨.ref a, rfl, a, _, 1, .ref bb, rfl, rfl, t1, rfl, bb, vs, ps, l - 1, rfl, t2, t3, ok.2.2.2.1, ok.2.2.2.2, ok.2.1, ok.2.2.1, by omega, fun n hn => ?_, fun H3 s3 => q _ (s1.trans (s2.trans s3))⟩
        have := hts_mem hn
        unfold ht at hh
        omega
end
end C62

set_option Elab.async false
set_option linter.all false
set_option maxRecDepth 100000
namespace C62
open PySem PySem.Spec PyProof.Rows L2 Loc RZ
section
variable {K : PySem.W.Frag}
theorem nd_some {H : Hp} {v : V} {n : Nd} (h : NdV K H v n) : v ≠ .non := by
  cases n with
  | el k => rw [h.el]; exact fun z => nomatch z
  | run b c =>
    obtain ⟨a, v2, rfl, _⟩ := h.run
    exact fun z => nomatch z
  | blk ps =>
    obtain ⟨a, b, vs, rfl, _⟩ := h.blk
    exact fun z => nomatch z
end
/-! ### reading texts of nodes -/
theorem cut_tl (z : Str) {i e : Nat} (h1 : i ≤ e) (h2 : e ≤ (TL.tl z).length) : TL.tl (cutS z (some (i : Int)) (some (e : Int))) = ((TL.tl z).drop i).take (e - i) := by
  have hl := TL.len_tl z
  unfold cutS
  rw [TL.tl_mk, HT.sIx_nat, HT.sIx_nat, Nat.min_eq_left (by omega), Nat.min_eq_left (by omega)]
theorem cut_sign (z s : Str) {i c : Nat} (hs : TL.tl s = [c]) : decide (V.str (cutS z (some (i : Int)) (some ((i : Int) + 1))) = V.str s) = decide ((TL.tl z)[i]? = some c) := by
  have hl := TL.len_tl z
  have e1 : ((i : Int) + 1) = ((i + 1 : Nat) : Int) := by omega
  have key : TL.tl (cutS z (some (i : Int)) (some ((i + 1 : Nat) : Int))) = ((TL.tl z).drop i).take 1 := by
    unfold cutS
    rw [TL.tl_mk, HT.sIx_nat, HT.sIx_nat]
    rcases Nat.lt_or_ge i (TL.tl z).length with h | h
    · rw [Nat.min_eq_left (by omega), Nat.min_eq_left (by omega), show i + 1 - i = 1 by omega]
    · rw [Nat.min_eq_right (by omega), Nat.min_eq_right (by omega), List.drop_eq_nil_of_le h, Nat.sub_self, List.take_zero]
      rfl
  rw [e1]
  have e2 : ((TL.tl z).drop i).take 1 = [c] ↔ (TL.tl z)[i]? = some c := by
    cases h : (TL.tl z)[i]? with
    | none =>
      rw [List.drop_eq_nil_of_le (List.getElem?_eq_none_iff.mp h)]
      simp
    | some d =>
      have hi := (List.getElem?_eq_some_iff.mp h)
      rw [List.drop_eq_getElem_cons hi.1, hi.2]
      simp
  refine decide_eq_decide.mpr ⟨fun h => ?_, fun h => ?_⟩
  · have := congrArg TL.tl (V.str.inj h)
    rw [key, hs] at this
    exact e2.mp this
  · refine congrArg V.str (TL.ext_tl ?_)
    rw [key, hs]
    exact e2.mpr h
def Dg (c : Nat) : Prop := 48 ≤ c ∧ c ≤ 57
theorem mem_dig (c : Nat) : c ∈ ("0123456789" : Str).cps.toList ↔ Dg c := by
  have : ("0123456789" : Str).cps.toList = [48, 49, 50, 51, 52, 53, 54, 55, 56, 57] := by decide +kernel
  rw [this]
  unfold Dg
  simp only [List.mem_cons, List.not_mem_nil, or_false]
  omega
theorem numL_head : ∀ n : Nat, 1 ≤ n → ∃ c r, TL.numL n = c :: r ∧ 49 ≤ c ∧ c ≤ 57 := by
  intro n
  induction n using Nat.strongRecOn with
  | _ n ih =>
    intro h
    rcases Nat.lt_or_ge n 10 with l | l
    · exact ⟨48 + n, [], TL.numL_lt l, by omega, by omega⟩
    · obtain ⟨c, r, e, h1, h2⟩ := ih (n / 10) (by omega) (by omega)
      exact ⟨c, r ++ [48 + n % 10], by rw [TL.numL_step l, e]; rfl, h1, h2⟩
section
variable {P : Program} {w : World} {K : PySem.W.Frag} {mg : Str → Option Value} {base : Heap}
theorem scDig : FnScope ["text", "at"] ["text", "at"] (defScope s__digits_end) := ⟨rfl, rfl, rfl, by decide +kernel, rfl, by decide +kernel, by decide +kernel⟩
theorem scNumb : FnScope ["text", "most"] ["text", "most"] (defScope s_whole_with) := ⟨rfl, rfl, rfl, by decide +kernel, rfl, by decide +kernel, by decide +kernel⟩
def spDig : Sp := fun vs H Q _ => ∃ (z : Str) (i e : Nat), vs = [.str z, .int i] ∧ z.length ≤ sizeLine ∧ i ≤ e ∧ e ≤ (TL.tl z).length ∧ (∀ j c, i ≤ j → j < e → (TL.tl z)[j]? = some c → Dg c) ∧ (∀ c, (TL.tl z)[e]? = some c → ¬ Dg c) ∧ Q (.int (e : Nat)) H
theorem ok_dig {f : Addr} {fd : FuncData} {k : Nat} {tD : Tok} (F : Fun K "_digits_end" "_digits_end" s__digits_end f fd) (ml : mg "len" = none) (gD : mg "DIGITS" = some (.str "0123456789" tD)) : FnOk P w K mg base CX0 (k + 1) f fd ["text", "at"] spDig := by
  refine F.ok scDig (fun vs H Q E h => ?_) (fun cdv A outer s H vs Q E hr h => ?_)
  · obtain ⟨z, i, e, rfl, _⟩ := h
    rfl
  · obtain ⟨z, i, e, rfl, hz, h1, h2, h3, h4, q⟩ := h
    refine ⟨_, pss_cons (ps_while PassesOwn.never (PW.pt (pw_and (pt_cmpR op_lt (pv 1) (pe_callB call_len_str (by rfl) ml PySem.boot_len (pa_cons (pv 0) pa_nil)) (nomark _))
          (pw_and1 (pt_cmpR op_in_sign (pe_ix ix_str (pv 0) (pv 1) (fun _ _ => rfl)) (pe_glob (v := .str "0123456789") (by rfl) gD ⟨_, rfl⟩) (by rfl)))))
        (pss_one (ps_aug (i := 1) scDig.nd rfl (.inl rfl) pe_int ip_add)))
      (pss_one (ps_ret (pv 1))), ?_⟩
    refine ⟨fun m σ H' => ∃ j : Nat, j + m = e ∧ i ≤ j ∧ σ = [some (.str z), some (.int j)] ∧ H' = H, ⟨e - i, i, by omega, Nat.le_refl _, rfl, rfl⟩, ?_⟩
    rintro m σ H' ⟨j, jm, ij, rfl, rfl⟩
    have lz := TL.len_tl z
    refine ⟨_, rfl, _, rfl, z, rfl, hz, _, _, rfl, rfl, _, rfl, ?_⟩
    by_cases c1 : j < (TL.tl z).length
    · obtain ⟨c, hc⟩ := get_of c1
      rw [show decide ((j : Int) < ((z.length : Nat) : Int)) = true from decide_eq_true (by omega)]
      refine ⟨_, rfl, _, rfl, z, j, c, rfl, rfl, hz, atI_nat hc, c, _, rfl, rfl, _, rfl, ?_⟩
      by_cases d : Dg c
      · rw [decide_eq_true ((mem_dig c).mpr d)]
        have hlt : j < e := by
          rcases Nat.lt_or_ge j e with z1 | z1
          · exact z1
          · have : j = e := by omega
            rw [this] at hc
            exact absurd d (h4 c hc)
        refine ⟨fun σ' H'' => σ' = [some (.str z), some (.int ((j + 1 : Nat) : Int))] ∧ H'' = H', fun σ' H'' hN => ⟨m - 1, by omega, j + 1, by omega, by omega, hN.1, hN.2⟩, ?_⟩
        refine ⟨_, rfl, j, 1, rfl, rfl, ?_, rfl⟩
        rw [Int.natCast_add]
        rfl
      · rw [decide_eq_false (fun x => d ((mem_dig c).mp x))]
        have : j = e := by
          rcases Nat.lt_or_ge j e with z1 | z1
          · exact absurd (h3 j c ij z1 hc) d
          · omega
        rw [← this] at q
        exact ⟨_, rfl, q⟩
    · rw [show decide ((j : Int) < ((z.length : Nat) : Int)) = false from decide_eq_false (by omega)]
      have : j = e := by omega
      rw [← this] at q
      exact ⟨_, rfl, q⟩
def spNumb : Sp := fun vs H Q _ => ∃ (z : Str) (n : Nat), vs = [.str z, .int 61] ∧ TL.tl z = TL.numL n ∧ n < 10 ^ 61 ∧ Q (.int (n : Nat)) H
theorem ok_numb {f a : Addr} {fd ad : FuncData} {k : Nat} (F : Fun K "whole_with" "whole_with" s_whole_with f fd) (ml : mg "len" = none) (mi : mg "int" = none)
    (GA : FnOk P w K mg base CX0 (k + 1) a ad ["text", "at"] spDig) (A' : Fun K "_digits_end" "_digits_end" s__digits_end a ad) (gA : mg "_digits_end" = some (.ref a)) (bA : Binds K ad ["text", "at"] []) : FnOk P w K mg base CX0 (k + 2) f fd ["text", "most"] spNumb := by
  refine F.ok scNumb (fun vs H Q E h => ?_) (fun cdv A outer s H vs Q E hr h => ?_)
  · obtain ⟨z, n, rfl, _⟩ := h
    rfl
  · obtain ⟨z, n, rfl, hz, h1, q⟩ := h
    refine ⟨_, pss_cons (ps_if (PW.pt (pw_or (pt_not (pt_chain op_le op_le pe_int (pe_callB call_len_str (by rfl) ml PySem.boot_len (pa_cons (pv 0) pa_nil)) (pv 1)))
          (pw_or1 (pt_cmpR op_lt (pe_call GA hr (by rfl) gA A'.kp bA .nil pass0 (pa_cons (pv 0) (pa_cons pe_int pa_nil))) (pe_callB call_len_str (by rfl) ml PySem.boot_len (pa_cons (pv 0) pa_nil)) (nomark _))))) (pss_one (ps_ret pe_non)) pss_nil)
      (pss_cons (ps_if (PW.pt (pw_and (pt_cmpR op_eq (pe_ix ix_str (pv 0) pe_int (fun _ _ => rfl)) pe_str (nomark _)) (pw_and1 (pt_cmpR op_gt (pe_callB call_len_str (by rfl) ml PySem.boot_len (pa_cons (pv 0) pa_nil)) pe_int (nomark _))))) (pss_one (ps_ret pe_non)) pss_nil)
      (pss_one (ps_ret (pe_callTy call_int_str (by rfl) mi (by decide +kernel) (pa_cons (pv 0) pa_nil))))), ?_⟩
    have lz := TL.len_tl z
    have l1 : (TL.tl z).length ≤ 61 := by rw [hz]; exact TL.numL_len (by decide) h1
    have l0 : 1 ≤ (TL.tl z).length := by
      rw [hz]
      cases e : TL.numL n with
      | nil => exact absurd e (TL.numL_ne n)
      | cons a b => exact Nat.succ_le_succ (Nat.zero_le _)
    have sl : z.length ≤ sizeLine := Nat.le_trans (by omega : z.length ≤ 61) (by decide)
    refine ⟨_, rfl, z, rfl, sl, 1, _, rfl, rfl, _, rfl, ?_⟩
    rw [decide_eq_true (show (1 : Int) ≤ ((z.length : Nat) : Int) by omega)]
    refine ⟨_, rfl, _, 61, rfl, rfl, _, rfl, ?_⟩
    rw [decide_eq_true (show ((z.length : Nat) : Int) ≤ 61 by omega)]
    refine ⟨_, rfl, z, 0, (TL.tl z).length, rfl, sl, Nat.zero_le _, Nat.le_refl _, fun j c _ _ hc => ?_, fun c hc => ?_, _, rfl, z, rfl, sl, _, _, rfl, rfl, _, rfl, ?_⟩
    · rw [hz] at hc
      exact TL.numL_digits n c (List.mem_of_getElem? hc)
    · rw [List.getElem?_eq_none_iff.mpr (Nat.le_refl _)] at hc
      cases hc
    rw [decide_eq_false (show ¬ (((TL.tl z).length : Nat) : Int) < ((z.length : Nat) : Int) by omega)]
    refine iteF ?_
    obtain ⟨c, hc⟩ := get_of (l := TL.tl z) (i := 0) (by omega)
    refine ⟨_, rfl, z, ((0 : Nat) : Int), c, rfl, rfl, sl, atI_nat hc, rfl, _, rfl, ?_⟩
    have ival : PySem.intText? z = some (n : Int) := by
      have : z.cps.toList = TL.numL n := hz
      have k := PySem.intText_digits (x := z) (by rw [this]; exact TL.numL_digits n) (by rw [this]; exact TL.numL_ne n) (by omega)
      rw [this, TL.numL_val] at k
      exact k
    by_cases e0 : c = 48
    · have n0 : n = 0 := by
        rcases Nat.eq_zero_or_pos n with h | h
        · exact h
        · obtain ⟨d, r, e1, e2, _⟩ := numL_head n h
          rw [hz, e1] at hc
          have : d = c := by simpa using hc
          omega
      have l1' : (TL.tl z).length = 1 := by rw [hz, n0, TL.numL_lt (by decide)]; rfl
      rw [decide_eq_true (show V.str { cps := #[c] } = V.str "0" by rw [e0]; exact congrArg V.str (TL.ext_tl (by decide +kernel)))]
      refine ⟨_, rfl, z, rfl, sl, _, _, rfl, rfl, _, rfl, ?_⟩
      rw [decide_eq_false (show ¬ (1 : Int) < ((z.length : Nat) : Int) by omega)]
      exact iteF ⟨_, rfl, z, _, rfl, ival, by omega, q⟩
    · rw [decide_eq_false (show ¬ V.str { cps := #[c] } = V.str "0" from fun x => e0 (by
        have := congrArg TL.tl (V.str.inj x)
        rw [show TL.tl ("0" : Str) = [48] by decide +kernel] at this
        have h2 : [c] = [48] := this
        simpa using h2))]
      exact iteF ⟨_, rfl, z, _, rfl, ival, by omega, q⟩
theorem scRel : FnScope ["text", "at", "end", "number"] ["text", "at"] (defScope s__read_element) := ⟨rfl, rfl, rfl, by decide +kernel, rfl, by decide +kernel, by decide +kernel⟩
/-- the digits of a number stand at a place, behind them none -/
def At (L : List Nat) (i n : Nat) : Prop := ∃ r, L.drop i = TL.numL n ++ r ∧ (∀ c, r[0]? = some c → ¬ Dg c)
theorem At.facts {L : List Nat} {i n : Nat} (h : At L i n) : i + (TL.numL n).length ≤ L.length ∧ (∀ j c, i ≤ j → j < i + (TL.numL n).length → L[j]? = some c → Dg c) ∧ (∀ c, L[i + (TL.numL n).length]? = some c → ¬ Dg c) ∧ (L.drop i).take (i + (TL.numL n).length - i) = TL.numL n := by
  obtain ⟨r, e, h0⟩ := h
  have l := congrArg List.length e
  rw [List.length_drop, List.length_append] at l
  have p : 1 ≤ (TL.numL n).length := by
    cases z : TL.numL n with
    | nil => exact absurd z (TL.numL_ne n)
    | cons a b => exact Nat.succ_le_succ (Nat.zero_le _)
  refine ⟨by omega, fun j c h1 h2 hc => ?_, fun c hc => h0 c ?_, ?_⟩
  · obtain ⟨d, rfl⟩ : ∃ d, j = i + d := ⟨j - i, by omega⟩
    rw [← List.getElem?_drop, e, List.getElem?_append_left (by omega)] at hc
    exact TL.numL_digits n c (List.mem_of_getElem? hc)
  · rw [← List.getElem?_drop, e, List.getElem?_append_right (Nat.le_refl _), Nat.sub_self] at hc
    exact hc
  · rw [e, Nat.add_sub_cancel_left, List.take_left]
def spRel (K : PySem.W.Frag) : Sp := fun vs H Q _ => ∃ (z : Str) (i n : Nat), vs = [.str z, .int i] ∧ z.length ≤ sizeLine ∧ At (TL.tl z) i n ∧ n ≤ 10 ^ 9 ∧ ∀ H' t, Same H H' → SqT K H' t [.int (n : Nat), .int ((i + (TL.numL n).length : Nat) : Int)] → Q (.ref t) H'
theorem ok_rel {f a b c : Addr} {fd ad bd cd' : FuncData} {k : Nat} (F : Fun K "_read_element" "_read_element" s__read_element f fd) (GA : FnOk P w K mg base CX0 (k + 2) a ad ["text", "at"] spDig) (A' : Fun K "_digits_end" "_digits_end" s__digits_end a ad) (gA : mg "_digits_end" = some (.ref a)) (bA : Binds K ad ["text", "at"] [])
    (GB : FnOk P w K mg base CX0 (k + 2) b bd ["text", "most"] spNumb) (B' : Fun K "whole_with" "whole_with" s_whole_with b bd) (gB : mg "whole_with" = some (.ref b)) (bB : Binds K bd ["text", "most"] []) {tD : Tok} (gMD : mg "MOST_DIGITS" = some (.int 61 tD))
    (GC : FnOk P w K mg base CX0 (k + 2) c cd' ["value"] spElement) (C' : Fun K "is_element" "is_element" sElement c cd') (gC : mg "is_element" = some (.ref c)) (bC : Binds K cd' ["value"] []) : FnOk P w K mg base CX0 (k + 3) f fd ["text", "at"] (spRel K) := by
  refine F.ok scRel (fun vs H Q E h => ?_) (fun cdv A outer s H vs Q E hr h => ?_)
  · obtain ⟨z, i, n, rfl, _⟩ := h
    rfl
  · obtain ⟨z, i, n, rfl, hz, hat, hn, q⟩ := h
    refine ⟨_, pss_cons (ps_set (i := 2) scRel.nd rfl (.inl rfl) (pe_call GA hr (by rfl) gA A'.kp bA .nil pass0 (pa_cons (pv 0) (pa_cons (pv 1) pa_nil))))
      (pss_cons (ps_set (i := 3) scRel.nd rfl (.inl rfl) (pe_call GB hr (by rfl) gB B'.kp bB .nil pass0 (pa_cons (pe_slice sl_str (pv 0) (po_some (pv 1)) (po_some (pv 2))) (pa_cons (pe_glob (v := .int 61) (by rfl) gMD ⟨_, rfl⟩) pa_nil))))
      (pss_one (ps_ret (pe_tup (pa_cons (pe_ifExp (pt_val (pe_call GC hr (by rfl) gC C'.kp bC .nil pass0 (pa_cons (pv 3) pa_nil))) (pv 3) pe_non) (pa_cons (pv 2) pa_nil)))))), ?_⟩
    obtain ⟨f1, f2, f3, f4⟩ := hat.facts
    refine ⟨_, rfl, _, rfl, z, i, i + (TL.numL n).length, rfl, hz, by omega, f1, f2, f3, ?_⟩
    refine ⟨_, rfl, _, rfl, _, rfl, _, rfl, _, rfl, z, rfl, hz, _, n, rfl, by rw [cut_tl z (by omega) f1]; exact f4, Nat.lt_of_le_of_lt hn (by decide +kernel), ?_⟩
    refine ⟨_, rfl, n, rfl, by omega, by omega, _, rfl, iteT ⟨_, rfl, _, rfl, (show 2 ≤ sizeLine from by decide), fun t nt => q _ t (sameN nt) (.inl (.inl upd_same))⟩⟩
theorem scRcn : FnScope ["node", "text", "at", "end", "count"] ["node", "text", "at"] (defScope s__read_count) := ⟨rfl, rfl, rfl, by decide +kernel, rfl, by decide +kernel, by decide +kernel⟩
/-- no count, or one -/
def spRcn (K : PySem.W.Frag) : Sp := fun vs H Q _ => ∃ (v : V) (n : Nd) (z : Str) (i : Nat), vs = [v, .str z, .int i] ∧ NdV K H v n ∧ z.length ≤ sizeLine ∧
  (((TL.tl z)[i]? ≠ some 94 ∧ ∀ H' t, Same H H' → SqT K H' t [v, .int i] → Q (.ref t) H') ∨
   ((TL.tl z)[i]? = some 94 ∧ ∃ c, At (TL.tl z) (i + 1) c ∧ 2 ≤ c ∧ c ≤ 10 ^ 60 ∧ ∀ H' t u, Same H H' → NdV K H' u (.run n c) → SqT K H' t [u, .int ((i + 1 + (TL.numL c).length : Nat) : Int)] → Q (.ref t) H'))
theorem ok_rcn {f a b c r : Addr} {fd ad bd cd' rd' : FuncData} {k : Nat} (F : Fun K "_read_count" "_read_count" s__read_count f fd) (GA : FnOk P w K mg base CX0 (k + 2) a ad ["text", "at"] spDig) (A' : Fun K "_digits_end" "_digits_end" s__digits_end a ad) (gA : mg "_digits_end" = some (.ref a)) (bA : Binds K ad ["text", "at"] [])
    (GB : FnOk P w K mg base CX0 (k + 2) b bd ["text", "most"] spNumb) (B' : Fun K "whole_with" "whole_with" s_whole_with b bd) (gB : mg "whole_with" = some (.ref b)) (bB : Binds K bd ["text", "most"] []) {tD : Tok} (gMD : mg "MOST_DIGITS" = some (.int 61 tD))
    (GC : FnOk P w K mg base CX0 (k + 2) c cd' ["value", "least"] spCount) (C' : Fun K "is_count" "is_count" sCount c cd') (gC : mg "is_count" = some (.ref c)) (bC : Binds K cd' ["value", "least"] [])
    (GR : FnOk P w K mg base CX0 (k + 2) r rd' ["node", "count"] (spRunOf K)) (R' : Fun K "run_of" "run_of" sRunOf r rd') (gR : mg "run_of" = some (.ref r)) (bR : Binds K rd' ["node", "count"] []) : FnOk P w K mg base CX0 (k + 3) f fd ["node", "text", "at"] (spRcn K) := by
  refine F.ok scRcn (fun vs H Q E h => ?_) (fun cdv A outer s H vs Q E hr h => ?_)
  · obtain ⟨v, n, z, i, rfl, _⟩ := h
    rfl
  · obtain ⟨v, n, z, i, rfl, hn, hz, q⟩ := h
    refine ⟨_, pss_cons (ps_if (PW.pt (pw_or (pt_cmpR op_isN (pv 0) pe_non (nomark _)) (pw_or1 (pt_cmpR op_ne (pe_slice sl_str (pv 1) (po_some (pv 2)) (po_some (pe_op op_add (pv 2) pe_int))) pe_str (nomark _))))) (pss_one (ps_ret (pe_tup (pa_cons (pv 0) (pa_cons (pv 2) pa_nil))))) pss_nil)
      (pss_cons (ps_set (i := 3) scRcn.nd rfl (.inl rfl) (pe_call GA hr (by rfl) gA A'.kp bA .nil pass0 (pa_cons (pv 1) (pa_cons (pe_op op_add (pv 2) pe_int) pa_nil))))
      (pss_cons (ps_set (i := 4) scRcn.nd rfl (.inl rfl) (pe_call GB hr (by rfl) gB B'.kp bB .nil pass0 (pa_cons (pe_slice sl_str (pv 1) (po_some (pe_op op_add (pv 2) pe_int)) (po_some (pv 3))) (pa_cons (pe_glob (v := .int 61) (by rfl) gMD ⟨_, rfl⟩) pa_nil))))
      (pss_one (ps_ret (pe_tup (pa_cons (pe_ifExp (pt_val (pe_call GC hr (by rfl) gC C'.kp bC .nil pass0 (pa_cons (pv 4) (pa_cons pe_int pa_nil)))) (pe_call GR hr (by rfl) gR R'.kp bR .nil pass0 (pa_cons (pv 0) (pa_cons (pv 4) pa_nil))) pe_non) (pa_cons (pv 3) pa_nil))))))), ?_⟩
    refine ⟨v, rfl, rfl, _, rfl, ?_⟩
    rw [decide_eq_false (nd_some hn)]
    refine ⟨_, rfl, _, rfl, _, rfl, _, rfl, _, 1, rfl, rfl, _, rfl, z, rfl, hz, rfl, _, rfl, ?_⟩
    rcases q with ⟨ne, q⟩ | ⟨eq, c, hat, c1, c2, q⟩
    · rw [cut_sign z "^" (c := 94) (by decide +kernel), decide_eq_false ne]
      exact iteT ⟨v, rfl, _, rfl, (show 2 ≤ sizeLine from by decide), fun t nt => q _ t (sameN nt) (.inl (.inl upd_same))⟩
    · rw [cut_sign z "^" (c := 94) (by decide +kernel), decide_eq_true eq]
      obtain ⟨f1, f2, f3, f4⟩ := hat.facts
      refine iteF ⟨_, rfl, _, rfl, _, 1, rfl, rfl, z, i + 1, i + 1 + (TL.numL c).length, ?_, hz, by omega, f1, f2, f3, ?_⟩
      · rw [Int.natCast_add]
        rfl
      refine ⟨_, rfl, _, rfl, _, 1, rfl, rfl, _, rfl, _, rfl, _, rfl, z, rfl, hz, _, c, rfl, ?_, Nat.lt_of_le_of_lt c2 (by decide +kernel), ?_⟩
      · show TL.tl (cutS z (some ((i : Int) + 1)) _) = _
        rw [show ((i : Int) + 1) = ((i + 1 : Nat) : Int) by omega, cut_tl z (by omega) f1]
        exact f4
      have c2' : (c : Int) ≤ 10 ^ 60 := by
        have := Int.ofNat_le.mpr c2
        rw [Int.natCast_pow] at this
        exact this
      refine ⟨_, rfl, _, _, rfl, by omega, c2', _, rfl, iteT ⟨v, rfl, _, rfl, v, n, _, c, rfl, rfl, hn, fun H1 u s1 hu => ⟨_, rfl, (show 2 ≤ sizeLine from by decide), fun t nt => q _ t u (s1.trans (sameN nt)) ?_ (.inl (.inl upd_same))⟩⟩⟩
      have : mkRun (n, c) = .run n c := by
        unfold mkRun
        rw [if_neg (by show c ≠ 1; omega)]
      rw [this] at hu
      exact hu.up (.of (sameN nt))
end
end C62

set_option Elab.async false
set_option linter.all false
set_option maxRecDepth 100000
namespace C62
open PySem PySem.Spec PyProof.Rows L2 Loc RZ
/-! ### a node's text, read -/
section
variable {P : Program} {w : World} {K : PySem.W.Frag} {mg : Str → Option Value} {base : Heap}
theorem scClo : FnScope ["parts"] ["parts"] (defScope s__closed) := ⟨rfl, rfl, rfl, by decide +kernel, rfl, by decide +kernel, by decide +kernel⟩
variable {hA hB hC hD hW hL hM hN hO hP : Addr} {eA eB eC eD eW eL eM eN eO eP : FuncData}
def spFitG (K : PySem.W.Frag) : Sp := fun vs H Q _ => ∃ a us ns l, vs = [.ref a] ∧ SqL K H a us ∧ NdsV K H us ns ∧ OkAll ns l ∧ Unb ns ∧ ns.length ≤ 3 ∧ l ≤ 20 ∧ ∀ H', Same H H' → Q (.bl true) H'
theorem ok_fitG (X : NodeF K mg hA hB hC hD hW hL hM hN hO hP eA eB eC eD eW eL eM eN eO eP) : FnOk P w K mg base CX0 4 hP eP ["nodes"] (spFitG K) := by
  have GC : FnOk P w K mg base CX0 3 hC eC ["node"] (spBase K) := ok_base X.C X.A X.gA X.bA X.isinstance X.tuple
  have GD : FnOk P w K mg base CX0 3 hD eD ["node"] (spLevel K) := ok_level X.D X.C X.gC X.bC X.A X.gA X.bA X.B X.gB X.bB X.isinstance X.tuple
  refine X.P.ok scFit (fun vs H Q E h => ?_) (fun cdv A outer s H vs Q E hr h => ?_)
  · obtain ⟨a, us, ns, l, rfl, _⟩ := h
    rfl
  · obtain ⟨a, us, ns, l, rfl, hT, hN, ok, un, len, l2, q⟩ := h
    refine ⟨_, pss_cons (ps_for PassesOwn.never rfl (pi_range2 (by rfl) X.range (pa_cons pe_int (pa_cons (pe_callB call_len_seq (by rfl) X.len PySem.boot_len (pa_cons (pv 0) pa_nil)) pa_nil))) (pg_name (i := 1) scFit.nd rfl (.inl rfl))
        (pss_one (ps_if (PW.pt (pw_or (pt_cmpR op_ne (pe_call GD hr (by rfl) X.gD X.D.kp X.bD .nil pass0 (pa_cons (pe_ix ix_list (pv 0) (pe_op op_sub (pv 1) pe_int) (fun _ _ => rfl)) pa_nil)) (pe_call GD hr (by rfl) X.gD X.D.kp X.bD .nil pass0 (pa_cons (pe_ix ix_list (pv 0) (pv 1) (fun _ _ => rfl)) pa_nil)) (nomark _))
            (pw_or1 (pt_cmpR (op_eqD hr.units) (pe_call GC hr (by rfl) X.gC X.C.kp X.bC .nil pass0 (pa_cons (pe_ix ix_list (pv 0) (pe_op op_sub (pv 1) pe_int) (fun _ _ => rfl)) pa_nil)) (pe_call GC hr (by rfl) X.gC X.C.kp X.bC .nil pass0 (pa_cons (pe_ix ix_list (pv 0) (pv 1) (fun _ _ => rfl)) pa_nil)) (nomark _)))))
          (pss_one (ps_ret pe_bl)) pss_nil)))
      (pss_one (ps_ret pe_bl)), ?_⟩
    have hlu := hN.len
    refine ⟨.ref a, rfl, a, us, rfl, .inl hT, 1, _, rfl, ⟨by decide, by decide, by omega, by omega⟩, ?_⟩
    have n0 : (((us.length : Nat) : Int) - 1).toNat = ns.length - 1 := by omega
    refine for_range (fun i σ H' => ∃ y, σ = [some (.ref a), y] ∧ Same H H') ⟨none, rfl, Same.refl H⟩ (fun i σ H' hi hp => ?_) (fun σ H' hp => ?_)
    · obtain ⟨y, rfl, s1⟩ := hp
      rw [n0] at hi
      obtain ⟨x, hx⟩ := get_of (l := ns) (i := i) (by omega)
      obtain ⟨z, hz⟩ := get_of (l := ns) (i := i + 1) (by omega)
      have hT1 := s1.seq hT
      have hN1 := hN.up (.of (K := K) s1)
      obtain ⟨u, eu, ku⟩ := hN1.at hx
      obtain ⟨v, ev, kv⟩ := hN1.at hz
      have okx := ok.mem x (List.mem_of_getElem? hx)
      have okz := ok.mem z (List.mem_of_getElem? hz)
      have ne := unb_get un hx hz
      refine ⟨.ref a, rfl, _, rfl, _, 1, rfl, rfl, a, us, ((i : Nat) : Int), u, rfl, int_congr (by omega), hT1, atI_nat eu, u, x, l, rfl, ku, okx, fun H2 s2 => ?_⟩
      refine ⟨.ref a, rfl, _, rfl, a, us, ((i + 1 : Nat) : Int), v, rfl, int_congr (by omega), s2.seq hT1, atI_nat ev, v, z, l, rfl, kv.up (.of s2), okz, fun H3 s3 => ⟨rfl, _, rfl, ?_⟩⟩
      rw [decide_eq_true rfl]
      have s23 := s2.trans s3
      refine ⟨.ref a, rfl, _, rfl, _, 1, rfl, rfl, a, us, ((i : Nat) : Int), u, rfl, int_congr (by omega), s23.seq hT1, atI_nat eu, u, x, rfl, ku.up (.of s23), fun H4 u4 s4 k4 => ?_⟩
      have s24 := s23.trans s4
      refine ⟨.ref a, rfl, _, rfl, a, us, ((i + 1 : Nat) : Int), v, rfl, int_congr (by omega), s24.seq hT1, atI_nat ev, v, z, rfl, kv.up (.of s24), fun H5 v5 s5 k5 => ⟨_, _, k4.up (.of s5), k5, shaped_dat okx.base.1 l2, shaped_dat okz.base.1 l2, _, rfl, ?_⟩⟩
      rw [eqv_no ne]
      exact iteF ⟨_, rfl, s1.trans (s24.trans s5)⟩
    · obtain ⟨y, rfl, s1⟩ := hp
      exact q _ s1
def spCloG (K : PySem.W.Frag) : Sp := fun vs H Q _ => ∃ a us ns l, vs = [.ref a] ∧ SqL K H a us ∧ NdsV K H us ns ∧ OkAll ns l ∧ Unb ns ∧ 2 ≤ ns.length ∧ ns.length ≤ 3 ∧ l ≤ 20 ∧ ∀ H' t, Same H H' → NdV K H' t (.blk ns) → Q t H'
theorem ok_cloG {f : Addr} {fd : FuncData} (F : Fun K "_closed" "_closed" s__closed f fd) (X : NodeF K mg hA hB hC hD hW hL hM hN hO hP eA eB eC eD eW eL eM eN eO eP) : FnOk P w K mg base CX0 5 f fd ["parts"] (spCloG K) := by
  have GF : FnOk P w K mg base CX0 4 hP eP ["nodes"] (spFitG K) := ok_fitG X
  refine F.ok scClo (fun vs H Q E h => ?_) (fun cdv A outer s H vs Q E hr h => ?_)
  · obtain ⟨a, us, ns, l, rfl, _⟩ := h
    rfl
  · obtain ⟨a, us, ns, l, rfl, hT, hN, ok, un, n2, n3, l2, q⟩ := h
    refine ⟨_, pss_cons (ps_if (PW.pt (pw_and (pt_chain op_le op_le pe_int (pe_callB call_len_seq (by rfl) X.len PySem.boot_len (pa_cons (pv 0) pa_nil)) pe_int) (pw_and1 (pt_val (pe_call GF hr (by rfl) X.gP X.P.kp X.bP .nil pass0 (pa_cons (pv 0) pa_nil))))))
          (pss_one (ps_ret (pe_tup (pa_cons pe_str (pa_cons (pe_callTy call_tuple_of (by rfl) X.tuple PyProof.Rows.boot_tuple (pa_cons (pv 0) pa_nil)) pa_nil))))) pss_nil)
      (pss_one (ps_ret pe_non)), ?_⟩
    have lu := hN.len
    refine ⟨.ref a, rfl, a, us, rfl, .inl hT, 2, _, rfl, rfl, _, rfl, ?_⟩
    rw [decide_eq_true (show (2 : Int) ≤ ((us.length : Nat) : Int) by omega)]
    refine ⟨_, 3, rfl, rfl, _, rfl, ?_⟩
    rw [decide_eq_true (show ((us.length : Nat) : Int) ≤ 3 by omega)]
    refine ⟨.ref a, rfl, a, us, ns, l, rfl, hT, hN, ok, un, n3, l2, fun H1 s1 => ⟨_, rfl, iteT ?_⟩⟩
    refine ⟨.ref a, rfl, a, _, rfl, .inl ⟨s1.seq hT, fun t nt => ⟨(show 2 ≤ sizeLine from by decide), fun t2 nt2 => ?_⟩⟩⟩
    have s2 := (s1.trans (sameN (o := .tup us) nt)).trans (sameN (o := .tup [.str "block", .ref t]) nt2)
    exact q _ _ s2 (.ofBlk (.inl (.inl upd_same)) (.inl (.inl (sameN nt2 _ _ upd_same))) (hN.up (.of s2)))
/-! ### the open blocks -/
abbrev Fr := List Nd × List Nd × Nat
def plugF : Nd → List Fr → Nd
  | n, [] => n
  | n, (d, r, c) :: fs => plugF (mkRun (.blk (d ++ n :: r), c)) fs
def sfx (c : Nat) : List Nat := if c = 1 then [] else 94 :: TL.numL c
def tailF : List Fr → List Nat
  | [] => []
  | (_, r, c) :: fs => cdt r ++ (sfx c ++ tailF fs)
def GoodF : Nd → List Fr → Prop
  | n, [] => ∃ l, l ≤ 20 ∧ Ok n l
  | n, (d, r, c) :: fs => GoodF (mkRun (.blk (d ++ n :: r), c)) fs ∧ (c = 1 ∨ (2 ≤ c ∧ c ≤ 10 ^ 60))
theorem GoodF.ok : ∀ {fs : List Fr} {n : Nd}, GoodF n fs → ∃ l, l ≤ 20 ∧ Ok n l
  | [], _, h => h
  | (d, r, c) :: fs, n, h => by
    obtain ⟨l, l2, ok⟩ := GoodF.ok h.1
    have okb : Ok (.blk (d ++ n :: r)) l := by
      unfold mkRun at ok
      split at ok
      · exact ok
      · unfold Ok at ok
        exact ok.2.2.2
    unfold Ok at okb
    exact ⟨l - 1, by omega, okb.2.2.2.1.mem n (by simp)⟩
theorem GoodF.blk {fs : List Fr} {d r : List Nd} {c : Nat} {n : Nd} (h : GoodF n ((d, r, c) :: fs)) : ∃ l, l ≤ 20 ∧ OkAll (d ++ n :: r) l ∧ Unb (d ++ n :: r) ∧ 2 ≤ (d ++ n :: r).length ∧ (d ++ n :: r).length ≤ 3 := by
  obtain ⟨l, l2, ok⟩ := GoodF.ok h.1
  have okb : Ok (.blk (d ++ n :: r)) l := by
    unfold mkRun at ok
    split at ok
    · exact ok
    · unfold Ok at ok
      exact ok.2.2.2
  unfold Ok at okb
  exact ⟨l - 1, by omega, okb.2.2.2.1, okb.2.2.2.2, okb.2.1, okb.2.2.1⟩
theorem cd_mkRun (b : Nd) (c : Nat) : cd (mkRun (b, c)) = cd b ++ sfx c := by
  unfold mkRun sfx
  by_cases e : c = 1
  · rw [if_pos e, if_pos e, List.append_nil]
  · rw [if_neg e, if_neg e, cd_run]
theorem tail_head {fs : List Fr} {x : Nat} (h : (tailF fs)[0]? = some x) : x = 32 ∨ x = 41 := by
  cases fs with
  | nil => cases h
  | cons f fs =>
    obtain ⟨d, r, c⟩ := f
    cases r with
    | nil =>
      have : 41 = x := by simpa [tailF, cdt] using h
      exact .inr this.symm
    | cons m r =>
      have : 32 = x := by simpa [tailF, cdt] using h
      exact .inl this.symm
/-- an element's, or a run's of an element -/
def Leaf : Nd → Prop
  | .el _ => True
  | .run (.el _) _ => True
  | _ => False
theorem cd_head {n : Nd} : (∃ k c, n = mkRun (.el k, c) ∧ 1 ≤ c) ∨ (∃ x xs c, n = mkRun (.blk (x :: xs), c)) ∨ ¬ ∃ l, Ok n l := by
  cases n with
  | el k => exact .inl ⟨k, 1, rfl, Nat.le_refl _⟩
  | run b c =>
    by_cases e : c = 1
    · refine .inr (.inr fun ⟨l, h⟩ => ?_)
      unfold Ok at h
      omega
    cases b with
    | el k =>
      by_cases z : c = 0
      · refine .inr (.inr fun ⟨l, h⟩ => ?_)
        unfold Ok at h
        omega
      · exact .inl ⟨k, c, by rw [mkRun, if_neg e], by omega⟩
    | run b c' =>
      refine .inr (.inr fun ⟨l, h⟩ => ?_)
      unfold Ok at h
      exact absurd h.2.2.1 (by show ¬ (true = false); decide)
    | blk ps =>
      cases ps with
      | nil =>
        refine .inr (.inr fun ⟨l, h⟩ => ?_)
        unfold Ok at h
        obtain ⟨_, _, _, h⟩ := h
        unfold Ok at h
        exact absurd h.2.1 (by decide)
      | cons x xs => exact .inr (.inl ⟨x, xs, c, by rw [mkRun, if_neg e]⟩)
  | blk ps =>
    cases ps with
    | nil =>
      refine .inr (.inr fun ⟨l, h⟩ => ?_)
      unfold Ok at h
      exact absurd h.2.1 (by decide)
    | cons x xs => exact .inr (.inl ⟨x, xs, 1, rfl⟩)
def FrsV (K : PySem.W.Frag) (H0 H : Hp) (O : Addr) : List Fr → List V → List Addr → Prop
  | [], vs, as => vs = [] ∧ as = []
  | (d, _, _) :: fs, vs, as => ∃ a vs' as' ws, vs = vs' ++ [.ref a] ∧ as = a :: as' ∧ a ≠ O ∧ a ∉ as' ∧ H0 a = none ∧ H a = some (.lst ws) ∧ NdsV K H ws d ∧ FrsV K H0 H O fs vs' as'
theorem FrsV.mv {H0 H H' : Hp} {O : Addr} (tp : Tups K H H') : ∀ {fs : List Fr} {vs : List V} {as : List Addr}, FrsV K H0 H O fs vs as → (∀ a ∈ as, ∀ ws, H a = some (.lst ws) → H' a = some (.lst ws)) → FrsV K H0 H' O fs vs as
  | [], _, _, h, _ => h
  | (d, r, c) :: fs, vs, as, h, st => by
    obtain ⟨a, vs', as', ws, e1, e2, h1, h2, h3, h4, h5, h6⟩ := h
    exact ⟨a, vs', as', ws, e1, e2, h1, h2, h3, st a (by rw [e2]; exact List.mem_cons_self) ws h4, h5.up tp, FrsV.mv tp h6 fun b hb => st b (by rw [e2]; exact List.mem_cons_of_mem _ hb)⟩
theorem FrsV.same {H0 H H' : Hp} {O : Addr} {fs : List Fr} {vs : List V} {as : List Addr} (h : FrsV K H0 H O fs vs as) (s : Same H H') : FrsV K H0 H' O fs vs as := h.mv (.of s) fun a _ ws e => s _ _ e
theorem FrsV.has {H0 H : Hp} {O : Addr} : ∀ {fs : List Fr} {vs : List V} {as : List Addr}, FrsV K H0 H O fs vs as → ∀ a ∈ as, a ≠ O ∧ ∃ ws, H a = some (.lst ws)
  | [], _, as, h, a, ha => by rw [h.2] at ha; cases ha
  | (d, r, c) :: fs, vs, as, h, a, ha => by
    obtain ⟨b, vs', as', ws, e1, e2, h1, h2, h3, h4, h5, h6⟩ := h
    rw [e2] at ha
    rcases List.mem_cons.mp ha with rfl | ha
    · exact ⟨h1, ws, h4⟩
    · exact FrsV.has h6 a ha
theorem FrsV.len {H0 H : Hp} {O : Addr} : ∀ {fs : List Fr} {vs : List V} {as : List Addr}, FrsV K H0 H O fs vs as → vs.length = fs.length
  | [], _, as, h => by rw [h.1]; rfl
  | (d, r, c) :: fs, vs, as, h => by
    obtain ⟨b, vs', as', ws, e1, e2, h1, h2, h3, h4, h5, h6⟩ := h
    rw [e1, List.length_append, FrsV.len h6]
    rfl
theorem FrsV.bool {H0 H : Hp} {O : Addr} {fs : List Fr} {vs : List V} {as : List Addr} (h : FrsV K H0 H O fs vs as) : (vs.length = 0 ↔ fs = []) := by
  rw [h.len]
  exact List.length_eq_zero_iff
end
end C62

set_option Elab.async false
set_option linter.all false
set_option maxRecDepth 100000
namespace C62
open PySem PySem.Spec PyProof.Rows L2 Loc RZ
/-! ### a node's text, read: the reader -/
section
variable {P : Program} {w : World} {K : PySem.W.Frag} {mg : Str → Option Value} {base : Heap}
theorem scNw : FnScope ["text", "opened", "at", "node"] ["text"] (defScope s_node_with) := ⟨rfl, rfl, rfl, by decide +kernel, rfl, by decide +kernel, by decide +kernel⟩
structure ReadF (P : Program) (w : World) (K : PySem.W.Frag) (mg : Str → Option Value) (base : Heap) (k : Nat) (e c d : Addr) (de dc dd : FuncData) : Prop where
  E : FnOk P w K mg base CX0 k e de ["text", "at"] (spRel K)
  E' : Fun K "_read_element" "_read_element" s__read_element e de
  gE : mg "_read_element" = some (.ref e)
  bE : Binds K de ["text", "at"] []
  C : FnOk P w K mg base CX0 k c dc ["node", "text", "at"] (spRcn K)
  C' : Fun K "_read_count" "_read_count" s__read_count c dc
  gC : mg "_read_count" = some (.ref c)
  bC : Binds K dc ["node", "text", "at"] []
  D : FnOk P w K mg base CX0 k d dd ["parts"] (spCloG K)
  D' : Fun K "_closed" "_closed" s__closed d dd
  gD : mg "_closed" = some (.ref d)
  bD : Binds K dd ["parts"] []
  len : mg "len" = none
  isinstance : mg "isinstance" = none
  str : mg "str" = none
def spNwG (K : PySem.W.Frag) : Sp := fun vs H Q _ => ∃ (z : Str) (n : Nd) (l : Nat), vs = [.str z] ∧ TL.tl z = cd n ∧ Ok n l ∧ l ≤ 20 ∧ z.length ≤ sizeLine ∧ ∀ H' u, Same H H' → NdV K H' u n → Q u H'
theorem numL_pos (n : Nat) : 1 ≤ (TL.numL n).length := by
  cases e : TL.numL n with
  | nil => exact absurd e (TL.numL_ne n)
  | cons a b => exact Nat.succ_le_succ (Nat.zero_le _)
theorem drop_more {L : List Nat} {i : Nat} {x r : List Nat} (h : L.drop i = x ++ r) : L.drop (i + x.length) = r := by
  rw [← List.drop_drop, h, List.drop_left]
theorem drop_head {L : List Nat} {i : Nat} {r : List Nat} (h : L.drop i = r) : L[i]? = r[0]? := by
  rw [← h, List.getElem?_drop, Nat.add_zero]
theorem rcn_any {H : Hp} {vs : List V} {v : V} {n : Nd} {z : Str} {i c : Nat} {rest : List Nat} {Q : VK} {E : XK} (e : vs = [v, .str z, .int (i : Nat)]) (hn : NdV K H v n) (hz : z.length ≤ sizeLine) (hd : (TL.tl z).drop i = sfx c ++ rest) (hr : ∀ {x : Nat}, rest[0]? = some x → x = 32 ∨ x = 41)
    (cc : c = 1 ∨ (2 ≤ c ∧ c ≤ 10 ^ 60)) (q : ∀ H' t u, Same H H' → NdV K H' u (mkRun (n, c)) → SqT K H' t [u, .int ((i + (sfx c).length : Nat) : Int)] → Q (.ref t) H') : spRcn K vs H Q E := by
  refine ⟨v, n, z, i, e, hn, hz, ?_⟩
  rcases cc with rfl | ⟨c1, c2⟩
  · refine .inl ⟨fun h => ?_, fun H' t s ht => q H' t v s (hn.up (.of s)) ht⟩
    rw [drop_head hd] at h
    have := hr (x := 94) h
    omega
  · have e2 : sfx c = 94 :: TL.numL c := by unfold sfx; rw [if_neg (by omega)]
    rw [e2] at hd
    refine .inr ⟨(drop_head hd).trans rfl, c, ⟨rest, by rw [← List.drop_drop, hd]; rfl, fun x hx => ?_⟩, c1, c2, fun H' t u s hu ht => q H' t u s ?_ ?_⟩
    · have := hr hx
      unfold Dg
      omega
    · rw [mkRun, if_neg (by show c ≠ 1; omega)]
      exact hu
    · rw [e2, List.length_cons, show i + ((TL.numL c).length + 1) = i + 1 + (TL.numL c).length by omega]
      exact ht
/-- the places where the reader stands -/
structure Stand (K : PySem.W.Frag) (H0 H : Hp) (O : Addr) (N n : Nd) (fs : List Fr) (vs : List V) (as : List Addr) : Prop where
  plug : plugF n fs = N
  good : GoodF n fs
  opn : H O = some (.lst vs)
  frs : FrsV K H0 H O fs vs as
  same : Same H0 H
theorem Stand.up {H0 H H' : Hp} {O : Addr} {N n : Nd} {fs : List Fr} {vs : List V} {as : List Addr} (h : Stand K H0 H O N n fs vs as) (s : Same H H') : Stand K H0 H' O N n fs vs as :=
  ⟨h.plug, h.good, s _ _ h.opn, h.frs.same s, h.same.trans s⟩
theorem ok_nwG {f e c d : Addr} {fd de dc dd : FuncData} {k : Nat} (F : Fun K "node_with" "node_with" s_node_with f fd) (X : ReadF P w K mg base k e c d de dc dd) : FnOk P w K mg base CX0 (k + 1) f fd ["text"] (spNwG K) := by
  refine F.ok scNw (fun vs H Q E h => ?_) (fun cdv A outer s H vs Q E hr h => ?_)
  · obtain ⟨z, n, l, rfl, _⟩ := h
    rfl
  · obtain ⟨z, N, lN, rfl, hz, okN, l20, sz, q⟩ := h
    refine ⟨_, pss_cons (ps_if (pt_not (pt_val (pe_callB call_isi (by rfl) X.isinstance PyProof.Rows.boot_isinstance (pa_cons (pv 0) (pa_cons (pe_bltn (v := .ty "str") (by rfl) X.str PyProof.Rows.boot_str rfl) pa_nil))))) (pss_one (ps_ret pe_non)) pss_nil)
      (pss_cons (ps_set (i := 1) scNw.nd rfl (.inl rfl) (pe_lst pa_nil))
      (pss_cons (ps_set (i := 2) scNw.nd rfl (.inl rfl) pe_int)
      (pss_one (ps_while PassesOwn.never (pt_val pe_bl)
        (pss_cons (ps_while PassesOwn.never (pt_cmpR op_eq (pe_slice sl_str (pv 0) (po_some (pv 2)) (po_some (pe_op op_add (pv 2) pe_int))) pe_str (nomark _))
          (pss_cons (ps_expr (pe_bm PySem.F.plainAttrs_list PySem.F.slot_list_append PySem.F.type_list_append mt_append (pv 1) (pa_cons (pe_lst pa_nil) pa_nil))) (pss_one (ps_aug (i := 2) scNw.nd rfl (.inl rfl) pe_int ip_add))))
        (pss_cons (ps_asg (pe_call X.E hr (by rfl) X.gE X.E'.kp X.bE .nil pass0 (pa_cons (pv 0) (pa_cons (pv 2) pa_nil))) (pg_tup rfl (pgs_cons (pg_name (i := 3) scNw.nd rfl (.inl rfl)) (pgs_cons (pg_name (i := 2) scNw.nd rfl (.inl rfl)) pgs_nil))))
        (pss_cons (ps_asg (pe_call X.C hr (by rfl) X.gC X.C'.kp X.bC .nil pass0 (pa_cons (pv 3) (pa_cons (pv 0) (pa_cons (pv 2) pa_nil)))) (pg_tup rfl (pgs_cons (pg_name (i := 3) scNw.nd rfl (.inl rfl)) (pgs_cons (pg_name (i := 2) scNw.nd rfl (.inl rfl)) pgs_nil))))
        (pss_cons (ps_while PassesOwn.never (PW.pt (pw_and (pt_cmpR op_notN (pv 3) pe_non (nomark _)) (pw_and (pt_truth (pv 1) (fun _ => rfl)) (pw_and1 (pt_cmpR op_eq (pe_slice sl_str (pv 0) (po_some (pv 2)) (po_some (pe_op op_add (pv 2) pe_int))) pe_str (nomark _))))))
          (pss_cons (ps_expr (pe_bm PySem.F.plainAttrs_list PySem.F.slot_list_append PySem.F.type_list_append mt_append (pe_ix ix_list (pv 1) (pe_un un_neg pe_int) (fun _ _ => rfl)) (pa_cons (pv 3) pa_nil)))
          (pss_cons (ps_set (i := 3) scNw.nd rfl (.inl rfl) (pe_call X.D hr (by rfl) X.gD X.D'.kp X.bD .nil pass0 (pa_cons (pe_bm0 PySem.F.plainAttrs_list PySem.F.slot_list_pop PySem.F.type_list_pop mt_pop (pv 1)) pa_nil)))
          (pss_one (ps_asg (pe_call X.C hr (by rfl) X.gC X.C'.kp X.bC .nil pass0 (pa_cons (pv 3) (pa_cons (pv 0) (pa_cons (pe_op op_add (pv 2) pe_int) pa_nil)))) (pg_tup rfl (pgs_cons (pg_name (i := 3) scNw.nd rfl (.inl rfl)) (pgs_cons (pg_name (i := 2) scNw.nd rfl (.inl rfl)) pgs_nil))))))))
        (pss_cons (ps_if (pt_cmpR op_isN (pv 3) pe_non (nomark _)) (pss_one (ps_ret pe_non)) pss_nil)
        (pss_cons (ps_if (pt_not (pt_truth (pv 1) (fun _ => rfl))) (pss_one (ps_ret (pe_ifExp (pt_cmpR op_eq (pv 2) (pe_callB call_len_str (by rfl) X.len PySem.boot_len (pa_cons (pv 0) pa_nil)) (nomark _)) (pv 3) pe_non))) pss_nil)
        (pss_cons (ps_if (pt_cmpR op_ne (pe_slice sl_str (pv 0) (po_some (pv 2)) (po_some (pe_op op_add (pv 2) pe_int))) pe_str (nomark _)) (pss_one (ps_ret pe_non)) pss_nil)
        (pss_cons (ps_expr (pe_bm PySem.F.plainAttrs_list PySem.F.slot_list_append PySem.F.type_list_append mt_append (pe_ix ix_list (pv 1) (pe_un un_neg pe_int) (fun _ _ => rfl)) (pa_cons (pv 3) pa_nil)))
        (pss_one (ps_aug (i := 2) scNw.nd rfl (.inl rfl) pe_int ip_add)))))))))))))), ?_⟩
    have lz := TL.len_tl z
    have br := fun i : Nat => cut_sign z "(" (i := i) (c := 40) (by decide +kernel)
    have cl := fun i : Nat => cut_sign z ")" (i := i) (c := 41) (by decide +kernel)
    have sp := fun i : Nat => cut_sign z " " (i := i) (c := 32) (by decide +kernel)
    refine ⟨_, rfl, _, _, _, _, true, rfl, .ty "str", .base (.str _), kit_ty (by decide +kernel), _, rfl, iteF ?_⟩
    refine ⟨(show 0 ≤ sizeLine from by decide), fun O nO => ?_⟩
    refine ⟨fun m σ H' => ∃ (i : Nat) (n : Nd) (fs : List Fr) (vs : List V) (as : List Addr) (y : Option V), m = (TL.tl z).length - i ∧ fs.length ≤ i ∧ σ = [some (.str z), some (.ref O), some (.int (i : Nat)), y] ∧ (TL.tl z).drop i = cd n ++ tailF fs ∧ Stand K H H' O N n fs vs as,
      ⟨_, 0, N, [], [], [], none, rfl, Nat.le_refl _, rfl, by rw [List.drop_zero, hz]; exact (List.append_nil _).symm, rfl, ⟨lN, l20, okN⟩, upd_same, ⟨rfl, rfl⟩, sameN nO⟩, ?_⟩
    rintro m σ H1 ⟨i, n, fs, vs, as, y, rfl, fi, rfl, ht, S⟩
    refine ⟨_, rfl, ?_⟩
    refine ⟨fun σ' H' => ∃ (i' : Nat) (n : Nd) (fs : List Fr) (vs : List V) (as : List Addr) (y : Option V), i < i' ∧ i < (TL.tl z).length ∧ fs.length ≤ i' ∧ σ' = [some (.str z), some (.ref O), some (.int (i' : Nat)), y] ∧ (TL.tl z).drop i' = cd n ++ tailF fs ∧ Stand K H H' O N n fs vs as,
      fun σ' H' hN => ?_, ?_⟩
    · obtain ⟨i', n', fs', vs', as', y', lt, lt2, z0, z1, z2, z3⟩ := hN
      exact ⟨_, by omega, i', n', fs', vs', as', y', rfl, z0, z1, z2, z3⟩
    refine ⟨fun m σ H' => ∃ (j : Nat) (n : Nd) (fs : List Fr) (vs : List V) (as : List Addr), m = (TL.tl z).length - j ∧ i ≤ j ∧ fs.length ≤ j ∧ σ = [some (.str z), some (.ref O), some (.int (j : Nat)), y] ∧ (TL.tl z).drop j = cd n ++ tailF fs ∧ Stand K H H' O N n fs vs as,
      ⟨_, i, n, fs, vs, as, rfl, Nat.le_refl _, fi, rfl, ht, S⟩, ?_⟩
    clear S ht fi n fs vs as
    rintro m σ H2 ⟨j, n, fs, vs, as, rfl, ij, fj, rfl, ht, S⟩
    obtain ⟨ln, ln2, okn⟩ := S.good.ok
    refine ⟨_, rfl, _, rfl, _, rfl, _, rfl, _, 1, rfl, rfl, _, rfl, z, rfl, sz, rfl, _, rfl, ?_⟩
    rw [br j]
    rcases cd_head (n := n) with ⟨k, c, rfl, c1⟩ | ⟨x, xs, c, rfl⟩ | bad
    rotate_left
    · -- a block is opened
      rw [cd_mkRun] at ht
      have e1 : (TL.tl z).drop j = 40 :: (cd x ++ (cdt xs ++ (sfx c ++ tailF fs))) := by
        rw [ht, cd, cds]
        simp
      have h0 : (TL.tl z)[j]? = some 40 := (drop_head e1).trans rfl
      have lt : j < (TL.tl z).length := (List.getElem?_eq_some_iff.mp h0).1
      rw [decide_eq_true h0]
      have cc : c = 1 ∨ (2 ≤ c ∧ c ≤ 10 ^ 60) := by
        by_cases z1 : c = 1
        · exact .inl z1
        · rw [mkRun, if_neg z1] at okn
          unfold Ok at okn
          exact .inr ⟨okn.1, okn.2.1⟩
      refine ⟨fun σ' H' => ∃ (j' : Nat) (n : Nd) (fs : List Fr) (vs : List V) (as : List Addr), j < j' ∧ fs.length ≤ j' ∧ σ' = [some (.str z), some (.ref O), some (.int (j' : Nat)), y] ∧ (TL.tl z).drop j' = cd n ++ tailF fs ∧ Stand K H H' O N n fs vs as,
        fun σ' H' hN => ?_, ?_⟩
      · obtain ⟨j', n', fs', vs', as', lt2, z0, z1, z2, z3⟩ := hN
        exact ⟨_, by omega, j', n', fs', vs', as', rfl, by omega, z0, z1, z2, z3⟩
      refine ⟨.ref O, rfl, .inl ⟨rfl, _, .inl (.inl S.opn)⟩, (show 0 ≤ sizeLine from by decide), fun p hp => ?_⟩
      have np : H p = none := freeS S.same hp
      have pO : p ≠ O := fun e => by rw [e, S.opn] at hp; cases hp
      have sp1 := sameN (o := .lst []) hp
      have S1 := S.up sp1
      have lvs := S.frs.len
      refine ⟨O, _, _, rfl, rfl, S1.opn, ?_, _, rfl, j, 1, rfl, rfl, j + 1, x, ([], xs, c) :: fs, vs ++ [.ref p], p :: as, Nat.lt_succ_self j, Nat.succ_le_succ fj, ?_, ?_, S.plug, ⟨S.good, cc⟩, upd_same, ⟨p, vs, as, [], rfl, rfl, pO, fun hm => ?_, np, ?_, .nil, ?_⟩, sameW S1.same nO⟩
      · rw [lvs]
        omega
      · show [some (V.str z), some (V.ref O), some (V.int ((j : Int) + 1)), y] = _
        rw [show ((j : Int) + 1) = ((j + 1 : Nat) : Int) by omega]
      · rw [← List.drop_drop, e1]
        simp [tailF]
      · obtain ⟨_, ws, z1⟩ := S.frs.has p hm
        rw [hp] at z1
        cases z1
      · rw [upd_ne pO, upd_same]
      · exact S1.frs.mv ((But.set (p := O)).tups S1.opn) fun a ha ws e => by
          rw [upd_ne (S1.frs.has a ha).1]
          exact e
    · exact absurd ⟨ln, okn⟩ bad
    -- an element, or a run of one
    rw [cd_mkRun, cd, List.append_assoc] at ht
    have hk : k ≤ 10 ^ 9 := by
      unfold mkRun at okn
      split at okn
      · unfold Ok at okn
        exact okn.2
      · unfold Ok at okn
        have := okn.2.2.2
        unfold Ok at this
        exact this.2
    have cc : c = 1 ∨ (2 ≤ c ∧ c ≤ 10 ^ 60) := by
      by_cases z1 : c = 1
      · exact .inl z1
      · rw [mkRun, if_neg z1] at okn
        unfold Ok at okn
        exact .inr ⟨okn.1, okn.2.1⟩
    have A0 : At (TL.tl z) j k := ⟨sfx c ++ tailF fs, ht, fun x hx => by
      unfold sfx at hx
      split at hx
      · have := tail_head hx
        unfold Dg
        omega
      · have : 94 = x := by simpa using hx
        unfold Dg
        omega⟩
    obtain ⟨f1, f2, _, _⟩ := A0.facts
    have p1 := numL_pos k
    have nb : (TL.tl z)[j]? ≠ some 40 := fun h => by
      have := f2 j 40 (Nat.le_refl _) (by omega) h
      unfold Dg at this
      omega
    rw [decide_eq_false nb]
    refine ⟨_, rfl, _, rfl, z, j, k, rfl, sz, A0, hk, fun H3 t s3 ht3 => ?_⟩
    refine ⟨t, _, rfl, ht3, rfl, _, _, rfl, _, [], rfl, rfl, ?_⟩
    have hd1 := drop_more ht
    refine ⟨_, rfl, _, rfl, _, rfl, ?_⟩
    dsimp only [tNil]
    refine rcn_any rfl (.ofEl k) sz hd1 tail_head cc (fun H4 t4 u s4 hu ht4 => ?_)
    refine ⟨t4, _, rfl, ht4, rfl, _, _, rfl, _, [], rfl, rfl, ?_⟩
    have S4 := S.up (s3.trans s4)
    have hd2 := drop_more hd1
    have ld1 := congrArg List.length hd1
    rw [List.length_drop, List.length_append] at ld1
    refine ⟨fun m σ H' => ∃ (j' : Nat) (n : Nd) (fs : List Fr) (vs : List V) (as : List Addr) (u : V), m = (TL.tl z).length - j' ∧ i < j' ∧ j' ≤ (TL.tl z).length ∧ fs.length ≤ j' ∧ σ = [some (.str z), some (.ref O), some (.int (j' : Nat)), some u] ∧ NdV K H' u n ∧ (TL.tl z).drop j' = tailF fs ∧ Stand K H H' O N n fs vs as,
      ⟨_, j + (TL.numL k).length + (sfx c).length, mkRun (.el k, c), fs, vs, as, u, rfl, by omega, by omega, by omega, rfl, hu, hd2, S4⟩, ?_⟩
    have il : i < (TL.tl z).length := by omega
    clear S S4 hd1 hd2 ht okn A0 f1 f2 nb ht3 ht4 hu fj cc hk
    rintro m σ H5 ⟨j', n, fs, vs, as, u, rfl, ij', jl, fj, rfl, hu, ht, S⟩
    refine ⟨u, rfl, rfl, _, rfl, ?_⟩
    rw [decide_eq_false (nd_some hu)]
    cases fs with
    | nil =>
      have lj : j' = (TL.tl z).length := by
        have := congrArg List.length ht
        rw [List.length_drop] at this
        have h2 : (TL.tl z).length - j' = 0 := this
        omega
      obtain ⟨rfl, rfl⟩ := S.frs
      refine ⟨.ref O, rfl, false, .inl ⟨_, .inl (.inl S.opn), rfl⟩, ?_⟩
      refine ⟨u, rfl, rfl, _, rfl, ?_⟩
      rw [decide_eq_false (nd_some hu)]
      refine iteF ⟨.ref O, rfl, false, .inl ⟨_, .inl (.inl S.opn), rfl⟩, iteT ?_⟩
      refine ⟨_, rfl, _, rfl, z, rfl, sz, rfl, _, rfl, ?_⟩
      rw [decide_eq_true (show V.int (j' : Nat) = V.int ((z.length : Nat) : Int) by rw [lj, lz])]
      have en : n = N := S.plug
      rw [en] at hu
      exact iteT ⟨u, rfl, q _ _ S.same hu⟩
    | cons fr fs =>
      obtain ⟨d, r, c⟩ := fr
      obtain ⟨a, vs', as', ws, rfl, rfl, aO, ain, na, ga, hws, fr'⟩ := S.frs
      obtain ⟨l, l20, oka, una, n2, n3⟩ := S.good.blk
      have lws := hws.len
      rw [List.length_append, List.length_cons] at n2 n3
      refine ⟨.ref O, rfl, true, .inl ⟨_, .inl (.inl S.opn), ?_⟩, ?_⟩
      · simp
      refine ⟨_, rfl, _, rfl, _, rfl, _, rfl, _, 1, rfl, rfl, _, rfl, z, rfl, sz, rfl, _, rfl, ?_⟩
      rw [cl j']
      have aV : atI (vs' ++ [V.ref a]) (-1) = some (.ref a) := atI_last vs' _
      have tp1 : Tups K H5 (upd H5 a (.lst (ws ++ [u]))) := (But.set (p := a)).tups ga
      have gO1 : upd H5 a (.lst (ws ++ [u])) O = some (.lst (vs' ++ [V.ref a])) := by
        rw [upd_ne (fun e => aO e.symm)]
        exact S.opn
      have ss1 := sameW S.same na (o := .lst (ws ++ [u]))
      have fr1 : FrsV K H (upd H5 a (.lst (ws ++ [u]))) O fs vs' as' := fr'.mv tp1 fun b hb ws e => by
        rw [upd_ne (show b ≠ a from fun z1 => ain (by rw [← z1]; exact hb))]
        exact e
      have wu : NdsV K (upd H5 a (.lst (ws ++ [u]))) (ws ++ [u]) (d ++ [n]) := (hws.up tp1).app (.cons (hu.up tp1) .nil)
      have lw4 : ws.length < sizeLine := Nat.lt_of_le_of_lt (show ws.length ≤ 3 by omega) (by decide)
      cases r with
      | cons m r =>
        have h32 : (TL.tl z)[j']? = some 32 := (drop_head ht).trans rfl
        rw [decide_eq_false (by rw [h32]; exact fun z => absurd (Option.some.inj z) (by decide))]
        refine ⟨u, rfl, rfl, _, rfl, ?_⟩
        rw [decide_eq_false (nd_some hu)]
        refine iteF ⟨.ref O, rfl, true, .inl ⟨_, .inl (.inl S.opn), by simp⟩, iteF ?_⟩
        refine ⟨_, rfl, _, rfl, _, rfl, _, rfl, _, 1, rfl, rfl, _, rfl, z, rfl, sz, rfl, _, rfl, ?_⟩
        rw [sp _, decide_eq_true h32]
        have hd3 : (TL.tl z).drop (j' + 1) = cd m ++ tailF ((d ++ [n], r, c) :: fs) := by
          rw [← List.drop_drop, ht]
          simp [tailF, cdt]
        refine iteF ⟨.ref O, rfl, 1, rfl, O, _, -1, .ref a, rfl, rfl, .inl (.inl S.opn), aV, .inl ⟨rfl, _, .inl (.inl ga)⟩, u, rfl, a, _, _, rfl, rfl, ga, lw4, _, rfl, j', 1, rfl, rfl, j' + 1, m, (d ++ [n], r, c) :: fs, vs' ++ [.ref a], a :: as', some u, by omega, il, Nat.le_succ_of_le fj, ?_, hd3, ?_, ⟨?_, S.good.2⟩, gO1, ⟨a, vs', as', ws ++ [u], rfl, rfl, aO, ain, na, upd_same, wu, fr1⟩, ss1⟩
        · show [some (V.str z), some (V.ref O), some (V.int ((j' : Int) + 1)), some u] = _
          rw [show ((j' : Int) + 1) = ((j' + 1 : Nat) : Int) by omega]
        · have := S.plug
          rw [plugF] at this ⊢
          rw [List.append_assoc]
          exact this
        · rw [List.append_assoc]
          exact S.good.1
      | nil =>
        have e41 : (TL.tl z).drop j' = 41 :: (sfx c ++ tailF fs) := ht
        have h41 : (TL.tl z)[j']? = some 41 := (drop_head e41).trans rfl
        rw [decide_eq_true h41]
        have lt : j' < (TL.tl z).length := (List.getElem?_eq_some_iff.mp h41).1
        refine ⟨fun σ' H' => ∃ (j2 : Nat) (n : Nd) (fs : List Fr) (vs : List V) (as : List Addr) (u : V), j' < j2 ∧ j2 ≤ (TL.tl z).length ∧ fs.length ≤ j2 ∧ σ' = [some (.str z), some (.ref O), some (.int (j2 : Nat)), some u] ∧ NdV K H' u n ∧ (TL.tl z).drop j2 = tailF fs ∧ Stand K H H' O N n fs vs as,
          fun σ' H' hN => ?_, ?_⟩
        · obtain ⟨j2, n', fs', vs2, as2, u2, lt2, z5, z0, z1, z2, z3, z4⟩ := hN
          exact ⟨_, by omega, j2, n', fs', vs2, as2, u2, rfl, by omega, z5, z0, z1, z2, z3, z4⟩
        have tp2 : Tups K (upd H5 a (.lst (ws ++ [u]))) (upd (upd H5 a (.lst (ws ++ [u]))) O (.lst vs')) := (But.set (p := O)).tups gO1
        have ss2 := sameW ss1 nO (o := .lst vs')
        refine ⟨.ref O, rfl, 1, rfl, O, _, -1, .ref a, rfl, rfl, .inl (.inl S.opn), aV, .inl ⟨rfl, _, .inl (.inl ga)⟩, u, rfl, a, _, _, rfl, rfl, ga, lw4, ?_⟩
        refine ⟨.ref O, rfl, .inl ⟨rfl, _, .inl (.inl gO1)⟩, O, vs' ++ [V.ref a], .ref a, rfl, rfl, gO1, by simp, ?_⟩
        rw [List.dropLast_concat]
        have fr2 : FrsV K H (upd (upd H5 a (.lst (ws ++ [u]))) O (.lst vs')) O fs vs' as' := fr1.mv tp2 fun b hb ws e => by
          rw [upd_ne (fr1.has b hb).1]
          exact e
        refine ⟨a, ws ++ [u], d ++ [n], l, rfl, .inl (.inl ?_), wu.up tp2, oka, una, ?_, ?_, l20, fun H6 t s6 ht6 => ?_⟩
        · rw [upd_ne aO, upd_same]
        · rw [List.length_append]; simpa using n2
        · rw [List.length_append]; simpa using n3
        have hd4 : (TL.tl z).drop (j' + 1) = sfx c ++ tailF fs := by
          rw [← List.drop_drop, e41]
          rfl
        refine ⟨t, rfl, _, rfl, _, rfl, _, 1, rfl, rfl, ?_⟩
        dsimp only [tNil]
        refine rcn_any (i := j' + 1) ?_ ht6 sz hd4 tail_head S.good.2 (fun H7 t7 u7 s7 hu7 ht7 => ?_)
        · rw [Int.natCast_add j' 1]
          rfl
        have s67 := s6.trans s7
        have ld4 := congrArg List.length hd4
        rw [List.length_drop, List.length_append] at ld4
        refine ⟨t7, _, rfl, ht7, rfl, _, _, rfl, _, [], rfl, rfl, j' + 1 + (sfx c).length, mkRun (.blk (d ++ [n]), c), fs, vs', as', u7, by omega, by omega, ?_, rfl, hu7, drop_more hd4, S.plug, S.good.1, s67 _ _ upd_same, fr2.same s67, ss2.trans s67⟩
        have : fs.length + 1 ≤ j' := fj
        omega
end
end C62

set_option Elab.async false
set_option linter.all false
set_option maxRecDepth 100000
namespace C62.T
open PySem PySem.Spec PyProof.Rows L2 Loc RZ
/-! ### the program's nodes -/
section
variable {P : Program} {w : World} {K : PySem.W.Frag} {mg : Str → Option Value} {base : Heap}
def spIsRun (K : PySem.W.Frag) : Sp := fun vs H Q _ => ∃ v n, vs = [v] ∧ NdV K H v n ∧ ∀ H', Same H H' → Q (.bl n.isRun) H'
def spIsBlk (K : PySem.W.Frag) : Sp := fun vs H Q _ => ∃ v n, vs = [v] ∧ NdV K H v n ∧ ∀ H', Same H H' → Q (.bl n.isBlk) H'
theorem scIsRun : FnScope ["value"] ["value"] (defScope sIsRun) := ⟨rfl, rfl, rfl, by decide +kernel, rfl, by decide +kernel, by decide +kernel⟩
theorem scIsBlk : FnScope ["value"] ["value"] (defScope sIsBlk) := ⟨rfl, rfl, rfl, by decide +kernel, rfl, by decide +kernel, by decide +kernel⟩
theorem shaped_one (s : Str) (h : PyData.canLay0 (.str s) = true) : SeqAt.shaped (.tuple [.str s]) = true := by
  unfold SeqAt.shaped
  rw [Bool.and_eq_true]
  exact ⟨by simp only [PyData.canLay0, PyData.canLayAll0] at h ⊢; rw [h]; rfl, decide_eq_true (by simp [PyData.depth, PyData.depthAll])⟩
theorem eqv_one (s t : Str) : PyData.eqv (.tuple [.str s]) (.tuple [.str t]) = (s == t) := by simp [PyData.eqv, PyData.eqvAll]
theorem ok_isrun {f : Addr} {fd : FuncData} {k : Nat} (F : Fun K "is_run" "is_run" sIsRun f fd) (mi : mg "isinstance" = none) (mt : mg "tuple" = none) : FnOk P w K mg base CX0 (k + 1) f fd ["value"] (spIsRun K) := by
  refine F.ok scIsRun (fun vs H Q E h => ?_) (fun cdv A outer s H vs Q E hr h => ?_)
  · obtain ⟨v, n, rfl, _⟩ := h
    rfl
  · obtain ⟨v, n, rfl, hn, q⟩ := h
    refine ⟨_, pss_one (ps_ret (pe_and (pe_callB call_isi (by rfl) mi PyProof.Rows.boot_isinstance (pa_cons (pv 0) (pa_cons (pe_bltn (v := .ty "tuple") (by rfl) mt PyProof.Rows.boot_tuple rfl) pa_nil)))
      (pe_one (pe_cmpR (op_eqD hr.units) (pe_slice sl_tupA (pv 0) po_none (po_some pe_int)) (pe_tup (pa_cons pe_str pa_nil)) (nomark _))))), ?_⟩
    cases n with
    | el n =>
      have ev := hn.el
      subst ev
      exact ⟨_, rfl, _, _, _, _, false, rfl, .ty "tuple", .base (.int _), kit_ty (by decide +kernel), _, rfl, q H (Same.refl H)⟩
    | run b c =>
      obtain ⟨a, v2, rfl, h1, h2⟩ := hn.run
      refine ⟨_, rfl, _, _, _, _, true, rfl, .ty "tuple", Loc.SqT.ty h1, kit_ty (by decide +kernel), _, rfl, ?_⟩
      refine ⟨.ref a, rfl, 1, rfl, a, _, rfl, h1, fun hw => absurd hw.2 (show ¬ HT.sIx 3 3 (some 1) = 3 by decide), fun hw p1 n1 => ⟨(show 1 ≤ sizeLine from by decide), fun p2 n2 => ?_⟩⟩
      refine ⟨.tuple [.str "run"], .tuple [.str "run"], .tup (.inl (.inl (sameN n2 _ _ upd_same))) (.cons (.str _) .nil), .tup (.inl (.inl upd_same)) (.cons (.str _) .nil), shaped_one _ str_run_ok.1, shaped_one _ str_run_ok.1, ?_⟩
      rw [eqv_one, beq_self_eq_true]
      exact q _ ((sameN n1).trans (sameN n2))
    | blk ps =>
      obtain ⟨a, b, vs, rfl, h1, h2, h3⟩ := hn.blk
      refine ⟨_, rfl, _, _, _, _, true, rfl, .ty "tuple", Loc.SqT.ty h1, kit_ty (by decide +kernel), _, rfl, ?_⟩
      refine ⟨.ref a, rfl, 1, rfl, a, _, rfl, h1, fun hw => absurd hw.2 (show ¬ HT.sIx 2 2 (some 1) = 2 by decide), fun hw p1 n1 => ⟨(show 1 ≤ sizeLine from by decide), fun p2 n2 => ?_⟩⟩
      refine ⟨.tuple [.str "block"], .tuple [.str "run"], .tup (.inl (.inl (sameN n2 _ _ upd_same))) (.cons (.str _) .nil), .tup (.inl (.inl upd_same)) (.cons (.str _) .nil), shaped_one _ str_run_ok.2, shaped_one _ str_run_ok.1, ?_⟩
      rw [eqv_one, unlike_sorts.2]
      exact q _ ((sameN n1).trans (sameN n2))
theorem ok_isblk {f : Addr} {fd : FuncData} {k : Nat} (F : Fun K "is_block" "is_block" sIsBlk f fd) (mi : mg "isinstance" = none) (mt : mg "tuple" = none) : FnOk P w K mg base CX0 (k + 1) f fd ["value"] (spIsBlk K) := by
  refine F.ok scIsBlk (fun vs H Q E h => ?_) (fun cdv A outer s H vs Q E hr h => ?_)
  · obtain ⟨v, n, rfl, _⟩ := h
    rfl
  · obtain ⟨v, n, rfl, hn, q⟩ := h
    refine ⟨_, pss_one (ps_ret (pe_and (pe_callB call_isi (by rfl) mi PyProof.Rows.boot_isinstance (pa_cons (pv 0) (pa_cons (pe_bltn (v := .ty "tuple") (by rfl) mt PyProof.Rows.boot_tuple rfl) pa_nil)))
      (pe_one (pe_cmpR (op_eqD hr.units) (pe_slice sl_tupA (pv 0) po_none (po_some pe_int)) (pe_tup (pa_cons pe_str pa_nil)) (nomark _))))), ?_⟩
    cases n with
    | el n =>
      have ev := hn.el
      subst ev
      exact ⟨_, rfl, _, _, _, _, false, rfl, .ty "tuple", .base (.int _), kit_ty (by decide +kernel), _, rfl, q H (Same.refl H)⟩
    | run b c =>
      obtain ⟨a, v2, rfl, h1, h2⟩ := hn.run
      refine ⟨_, rfl, _, _, _, _, true, rfl, .ty "tuple", Loc.SqT.ty h1, kit_ty (by decide +kernel), _, rfl, ?_⟩
      refine ⟨.ref a, rfl, 1, rfl, a, _, rfl, h1, fun hw => absurd hw.2 (show ¬ HT.sIx 3 3 (some 1) = 3 by decide), fun hw p1 n1 => ⟨(show 1 ≤ sizeLine from by decide), fun p2 n2 => ?_⟩⟩
      refine ⟨.tuple [.str "run"], .tuple [.str "block"], .tup (.inl (.inl (sameN n2 _ _ upd_same))) (.cons (.str _) .nil), .tup (.inl (.inl upd_same)) (.cons (.str _) .nil), shaped_one _ str_run_ok.1, shaped_one _ str_run_ok.2, ?_⟩
      rw [eqv_one, unlike_sorts.1]
      exact q _ ((sameN n1).trans (sameN n2))
    | blk ps =>
      obtain ⟨a, b, vs, rfl, h1, h2, h3⟩ := hn.blk
      refine ⟨_, rfl, _, _, _, _, true, rfl, .ty "tuple", Loc.SqT.ty h1, kit_ty (by decide +kernel), _, rfl, ?_⟩
      refine ⟨.ref a, rfl, 1, rfl, a, _, rfl, h1, fun hw => absurd hw.2 (show ¬ HT.sIx 2 2 (some 1) = 2 by decide), fun hw p1 n1 => ⟨(show 1 ≤ sizeLine from by decide), fun p2 n2 => ?_⟩⟩
      refine ⟨.tuple [.str "block"], .tuple [.str "block"], .tup (.inl (.inl (sameN n2 _ _ upd_same))) (.cons (.str _) .nil), .tup (.inl (.inl upd_same)) (.cons (.str _) .nil), shaped_one _ str_run_ok.2, shaped_one _ str_run_ok.2, ?_⟩
      rw [eqv_one, beq_self_eq_true]
      exact q _ ((sameN n1).trans (sameN n2))
/-- text_of, of nodes of less than m storeys -/
def spText (K : PySem.W.Frag) (m : Nat) : Sp := fun vs H Q _ => ∃ v n l, vs = [v] ∧ NdV K H v n ∧ Ok n l ∧ wide l ≤ 1000000 ∧ ht n < m ∧ ∀ H', Same H H' → Q (.str (txt n)) H'
theorem scText : FnScope ["node", "part"] ["node"] (defScope sText) := ⟨rfl, rfl, rfl, by decide +kernel, rfl, by decide +kernel, by decide +kernel⟩
theorem ok_text {f g b : Addr} {fd gd bd : FuncData} (F : Fun K "text_of" "text_of" sText f fd) (gF : mg "text_of" = some (.ref f)) (bF : Binds K fd ["node"] []) (R : Fun K "is_run" "is_run" sIsRun g gd) (gR : mg "is_run" = some (.ref g)) (bR : Binds K gd ["value"] [])
    (B : Fun K "is_block" "is_block" sIsBlk b bd) (gB : mg "is_block" = some (.ref b)) (bB : Binds K bd ["value"] []) (mi : mg "isinstance" = none) (mt : mg "tuple" = none) (ms : mg "str" = none) : ∀ m : Nat, FnOk P w K mg base CX0 (m + 1) f fd ["node"] (spText K m)
  | 0 => ⟨fun vs H Q E h => by obtain ⟨v, n, l, _, _, _, _, h, _⟩ := h; exact absurd h (Nat.not_lt_zero _), fun A outer s H args us vs Q E _ _ _ _ h => by obtain ⟨v, n, l, _, _, _, _, h, _⟩ := h; exact absurd h (Nat.not_lt_zero _)⟩
  | m + 1 => by
    have IH : FnOk P w K mg base CX0 (m + 1) f fd ["node"] (spText K m) := ok_text F gF bF R gR bR B gB bB mi mt ms m
    have GR : FnOk P w K mg base CX0 (m + 1) g gd ["value"] (spIsRun K) := ok_isrun R mi mt
    have GB : FnOk P w K mg base CX0 (m + 1) b bd ["value"] (spIsBlk K) := ok_isblk B mi mt
    refine F.ok scText (fun vs H Q E h => ?_) (fun cdv A outer s H vs Q E hr h => ?_)
    · obtain ⟨v, n, l, rfl, _⟩ := h
      rfl
    · obtain ⟨v, n, l, rfl, hn, ok, hw, hh, q⟩ := h
      refine ⟨_, pss_cons (ps_if (pt_val (pe_call GR hr (by rfl) gR R.kp bR .nil pass0 (pa_cons (pv 0) pa_nil)))
            (pss_one (ps_ret (pe_op op_add_str (pe_op op_add_str (pe_call IH hr (by rfl) gF F.kp bF .nil pass0 (pa_cons (pe_ix ix_tup (pv 0) pe_int (fun _ _ => rfl)) pa_nil)) pe_str) (pe_callTy call_str_int (by rfl) ms PyProof.Rows.boot_str (pa_cons (pe_ix ix_tup (pv 0) pe_int (fun _ _ => rfl)) pa_nil))))) pss_nil)
        (pss_cons (ps_if (pt_val (pe_call GB hr (by rfl) gB B.kp bB .nil pass0 (pa_cons (pv 0) pa_nil)))
            (pss_one (ps_ret (pe_op op_add_str (pe_op op_add_str pe_str (pe_join pe_str (pe_lc (own := [("part", 1)]) (g := gName 1) (tt := tYes) rfl scText.nd (pi_tup (pe_ix ix_tup (pv 0) pe_int (fun _ _ => rfl)))
              (blkOk_by (N := ["node", "part"]) (sc := defScope sText) (by decide +kernel)) (fun _ _ _ _ _ => pg_name (i := 1) scText.nd rfl (Or.inl rfl)) (fun _ _ _ _ _ => pts_nil)
              (fun _ _ _ _ _ => pe_call IH hr (by rfl) gF F.kp bF .nil pass0 (pa_cons (pv 1) pa_nil))))) pe_str))) pss_nil)
        (pss_one (ps_ret (pe_callTy call_str_int (by rfl) ms PyProof.Rows.boot_str (pa_cons (pv 0) pa_nil))))), ?_⟩
      have tl := txt_len n l ok
      refine ⟨v, rfl, v, n, rfl, hn, fun H1 s1 => ?_⟩
      have hn1 := hn.up (.of s1)
      cases n with
      | run b c =>
        refine ⟨_, rfl, iteT ?_⟩
        obtain ⟨a, v2, rfl, h1, h2⟩ := hn1.run
        unfold Ok at ok
        have tb := txt_len b l ok.2.2.2
        rw [ok.2.2.1] at tb
        simp only [Bool.false_eq_true, if_false] at tb
        have nl := numT_len (n := c) (k := 61) (by decide) (Nat.lt_of_le_of_lt ok.2.1 (by decide +kernel))
        have e1 : (Str.ofString "^").length = 1 := by decide +kernel
        refine ⟨.ref a, rfl, a, _, 1, v2, rfl, rfl, h1, rfl, v2, b, l, rfl, h2, ok.2.2.2, hw, ?_, fun H2 s2 => ?_⟩
        · unfold ht at hh
          omega
        refine ⟨_, _, rfl, rfl, ?_, .ref a, rfl, a, _, 2, .int c, rfl, rfl, sameT s2 h1, rfl, c, rfl, log60 ok.2.1, _, _, rfl, rfl, ?_, ?_⟩
        · rw [e1]
          exact Nat.le_trans (show (txt b).length + 1 ≤ 1000001 by omega) (by decide)
        · rw [strLen_append, e1]
          have : (numT c).length ≤ 61 := nl
          exact Nat.le_trans (show (txt b).length + 1 + (numT c).length ≤ 1000100 by omega) (by decide)
        · have := q H2 (s1.trans s2)
          unfold txt at this
          exact this
      | el n =>
        refine ⟨_, rfl, iteF ?_⟩
        refine ⟨v, rfl, v, .el n, rfl, hn1, fun H2 s2 => ⟨_, rfl, iteF ?_⟩⟩
        have ev := hn.el
        subst ev
        unfold Ok at ok
        refine ⟨_, rfl, n, rfl, log60 (Nat.le_trans ok.2 (by decide +kernel)), ?_⟩
        have := q H2 (s1.trans s2)
        unfold txt at this
        exact this
      | blk ps =>
        refine ⟨_, rfl, iteF ?_⟩
        refine ⟨v, rfl, v, .blk ps, rfl, hn1, fun H2 s2 => ⟨_, rfl, iteT ?_⟩⟩
        obtain ⟨a, bb, vs, rfl, h1, h2, h3⟩ := (hn1.up (.of s2)).blk
        have okc := ok
        unfold Ok at ok
        obtain ⟨l1, l2, l3, okp, _⟩ := ok
        have lv := h3.len
        have sm := txts_len ps (l - 1) okp
        obtain ⟨j, rfl⟩ : ∃ j, l = j + 1 := ⟨l - 1, by omega⟩
        simp only [Nat.add_sub_cancel] at sm okp
        have wj : wide (j + 1) = 3 * wide j + 110 := rfl
        have mm : ps.length * wide j ≤ 3 * wide j := Nat.mul_le_mul_right _ l3
        refine ⟨⟨_, rfl⟩, .ref a, rfl, a, _, 1, .ref bb, rfl, rfl, h1, rfl, bb, rfl, ⟨vs, h2⟩, fun D nD => ?_⟩
        refine lc_tup (xs := vs) (fun i H' => H' D = some (.lst (((txts ps).take i).map V.str)) ∧ Same H2 H') ⟨by rw [List.take_zero]; exact upd_same, sameN nD⟩ (fun i H' _ hp => sameT hp.2 h2) (fun i u H' hu hp => ?_) (fun H' hp => ?_)
        · obtain ⟨g1, s3⟩ := hp
          obtain ⟨x, hx, kx⟩ := (h3.up (.of s3)).get hu
          have hmem := List.mem_of_getElem? hx
          have ht2 : ht x < m := by
            have := hts_mem hmem
            unfold ht at hh
            omega
          have htx : (txts ps)[i]? = some (txt x) := by rw [txts_map, List.getElem?_map, hx]; rfl
          refine ⟨rfl, u, rfl, u, x, j, rfl, kx, okp.mem x hmem, by omega, ht2, fun H3 s4 => ⟨_, s4 _ _ g1, ?_, ?_, sameW (s3.trans s4) nD⟩⟩
          · rw [List.length_map]
            refine line5 (small_take ?_)
            rw [txts_map, List.length_map]
            omega
          · rw [upd_same, take_more htx, List.map_append]
            rfl
        · obtain ⟨g1, s3⟩ := hp
          have full : (txts ps).take vs.length = txts ps := List.take_of_length_le (by rw [txts_map, List.length_map, lv]; exact Nat.le_refl _)
          rw [full] at g1
          have e1 : (Str.ofString "(").length = 1 := by decide +kernel
          have e2 : (Str.ofString ")").length = 1 := by decide +kernel
          have e3 : (Str.ofString " ").length = 1 := by decide +kernel
          have e4 : (txts ps).length = ps.length := by rw [txts_map, List.length_map]
          have g := size_glued " " (txts ps)
          rw [e3, e4] at g
          have g' : (Txt.join " " (txts ps)).length = ((txts ps).map (·.length)).sum + (ps.length - 1) * 1 := g
          refine ⟨_, D, txts ps, rfl, rfl, .inl (.inl (.inl g1)), ?_, _, _, rfl, rfl, ?_, _, _, rfl, rfl, ?_, ?_⟩
          · rw [e3, e4]
            omega
          · rw [e1]
            refine Nat.le_trans (show 1 + (Txt.join " " (txts ps)).length ≤ 1000100 by omega) (by decide)
          · rw [strLen_append, e1, e2]
            refine Nat.le_trans (show 1 + (Txt.join " " (txts ps)).length + 1 ≤ 1000100 by omega) (by decide)
          · have := q H' (s1.trans (s2.trans s3))
            unfold txt at this
            exact this
end
/-! ### first marks -/
section
variable {P : Program} {w : World} {K : PySem.W.Frag} {mg : Str → Option Value} {base : Heap}
theorem scCode : FnScope ["text", "at"] ["text", "at"] (defScope sCodeAt) := ⟨rfl, rfl, rfl, by decide +kernel, rfl, by decide +kernel, by decide +kernel⟩
theorem scFU : FnScope ["one", "other", "at"] ["one", "other"] (defScope sFU) := ⟨rfl, rfl, rfl, by decide +kernel, rfl, by decide +kernel, by decide +kernel⟩
theorem scFM : FnScope ["texts", "place", "first"] ["texts", "place"] (defScope sFM) := ⟨rfl, rfl, rfl, by decide +kernel, rfl, by decide +kernel, by decide +kernel⟩
theorem scFirst : FnScope ["row", "texts", "node", "place"] ["row"] (defScope sFirst) := ⟨rfl, rfl, rfl, by decide +kernel, rfl, by decide +kernel, by decide +kernel⟩
def spCode : Sp := fun vs H Q _ => ∃ (s : Str) (t : List Nat) (i : Nat), vs = [.str s, .int i] ∧ TL.tl s = t ∧ (∀ c ∈ t, Sg c) ∧ s.length ≤ sizeLine ∧ Q (.int (codeAt t i : Nat)) H
def spFU : Sp := fun vs H Q _ => ∃ (s t : Str), vs = [.str s, .str t] ∧ s.length ≤ sizeLine ∧ t.length ≤ sizeLine ∧ Q (.int (cp (TL.tl s) (TL.tl t) : Nat)) H
theorem ok_code {f : Addr} {fd : FuncData} {k : Nat} {tS tE : Tok} (F : Fun K "_code_at" "_code_at" sCodeAt f fd) (ml : mg "len" = none) (gS : mg "SIGNS" = some (.str "0123456789 ()^" tS)) (gE : mg "ENDED" = some (.int 14 tE)) : FnOk P w K mg base CX0 (k + 1) f fd ["text", "at"] spCode := by
  refine F.ok scCode (fun vs H Q E h => ?_) (fun cdv A outer s H vs Q E hr h => ?_)
  · obtain ⟨s, t, i, rfl, _⟩ := h
    rfl
  · obtain ⟨x, t, i, rfl, rfl, hs, hl, q⟩ := h
    refine ⟨_, pss_cons (ps_if (pt_cmpR op_lt (pv 1) (pe_callB call_len_str (by rfl) ml PySem.boot_len (pa_cons (pv 0) pa_nil)) (nomark _))
        (pss_one (ps_ret (pe_m1 PySem.F.slot_str_index PySem.F.type_str_index mt_sindex (pe_glob (v := .str "0123456789 ()^") (by rfl) gS ⟨_, rfl⟩) (pe_ix ix_str (pv 0) (pv 1) (fun _ _ => rfl)) (by rfl) (by rfl) (by rfl)))) pss_nil)
      (pss_one (ps_ret (pe_glob (v := .int 14) (by rfl) gE ⟨_, rfl⟩))), ?_⟩
    refine ⟨_, rfl, _, rfl, x, rfl, hl, _, _, rfl, rfl, _, rfl, ite2 (fun e => ?_) (fun e => ?_)⟩
    · have e1 : (i : Int) < ((x.length : Nat) : Int) := of_decide_eq_true e
      rw [TL.len_tl] at e1
      obtain ⟨c, hc⟩ := get_of (l := TL.tl x) (i := i) (by omega)
      obtain ⟨rest, eo⟩ := sign_at (hs c (List.mem_of_getElem? hc))
      rw [codeAt_some hc] at q
      exact ⟨⟨_, rfl⟩, _, rfl, _, rfl, x, i, c, rfl, rfl, hl, atI_nat hc, _, _, _, rest, rfl, rfl, eo, q⟩
    · have e1 : ¬ (i : Int) < ((x.length : Nat) : Int) := fun z => e (decide_eq_true z)
      rw [TL.len_tl] at e1
      rw [codeAt_none (List.getElem?_eq_none_iff.mpr (by omega))] at q
      exact q
theorem ok_fu {f : Addr} {fd : FuncData} {k : Nat} (F : Fun K "_first_unlike" "_first_unlike" sFU f fd) (ml : mg "len" = none) : FnOk P w K mg base CX0 (k + 1) f fd ["one", "other"] spFU := by
  refine F.ok scFU (fun vs H Q E h => ?_) (fun cdv A outer s H vs Q E hr h => ?_)
  · obtain ⟨s, t, rfl, _⟩ := h
    rfl
  · obtain ⟨x, y, rfl, hx, hy, q⟩ := h
    refine ⟨_, pss_cons (ps_set (i := 2) scFU.nd rfl (.inl rfl) pe_int)
      (pss_cons (ps_while PassesOwn.never (PW.pt (pw_and (pt_cmpR op_lt (pv 2) (pe_callB call_len_str (by rfl) ml PySem.boot_len (pa_cons (pv 0) pa_nil)) (nomark _))
          (pw_and (pt_cmpR op_lt (pv 2) (pe_callB call_len_str (by rfl) ml PySem.boot_len (pa_cons (pv 1) pa_nil)) (nomark _))
          (pw_and1 (pt_cmpR op_eq (pe_ix ix_str (pv 0) (pv 2) (fun _ _ => rfl)) (pe_ix ix_str (pv 1) (pv 2) (fun _ _ => rfl)) (nomark _))))))
        (pss_one (ps_aug (i := 2) scFU.nd rfl (.inl rfl) pe_int ip_add)))
      (pss_one (ps_ret (pv 2)))), ?_⟩
    refine ⟨fun m σ H' => ∃ i : Nat, i + m = cp (TL.tl x) (TL.tl y) ∧ σ = [some (.str x), some (.str y), some (.int i)] ∧ H' = H, ⟨_, 0, Nat.zero_add _, rfl, rfl⟩, ?_⟩
    rintro m σ H' ⟨i, im, rfl, rfl⟩
    have lx := TL.len_tl x
    have ly := TL.len_tl y
    refine ⟨_, rfl, _, rfl, x, rfl, hx, _, _, rfl, rfl, _, rfl, ?_⟩
    by_cases c1 : i < (TL.tl x).length
    · obtain ⟨c, hc⟩ := get_of c1
      rw [show decide ((i : Int) < ((x.length : Nat) : Int)) = true from decide_eq_true (by omega)]
      refine ⟨_, rfl, _, rfl, y, rfl, hy, _, _, rfl, rfl, _, rfl, ?_⟩
      by_cases c2 : i < (TL.tl y).length
      · obtain ⟨d, hd⟩ := get_of c2
        rw [show decide ((i : Int) < ((y.length : Nat) : Int)) = true from decide_eq_true (by omega)]
        refine ⟨_, rfl, _, rfl, x, i, c, rfl, rfl, hx, atI_nat hc, _, rfl, _, rfl, y, i, d, rfl, rfl, hy, atI_nat hd, rfl, _, rfl, ?_⟩
        rw [Loc.one_sign]
        by_cases e : c = d
        · rw [decide_eq_true e]
          have hlt : i < cp (TL.tl x) (TL.tl y) := by
            rcases Nat.lt_or_ge i (cp (TL.tl x) (TL.tl y)) with z | z
            · exact z
            · have : i = cp (TL.tl x) (TL.tl y) := by omega
              rw [this] at hc hd
              exact absurd e (cp_stop _ _ c d hc hd)
          refine ⟨fun σ' H'' => σ' = [some (.str x), some (.str y), some (.int ((i + 1 : Nat) : Int))] ∧ H'' = H', fun σ' H'' hN => ⟨m - 1, by omega, i + 1, by omega, hN.1, hN.2⟩, ?_⟩
          refine ⟨_, rfl, i, 1, rfl, rfl, ?_, rfl⟩
          rw [Int.natCast_add]
          rfl
        · rw [decide_eq_false e]
          have : i = cp (TL.tl x) (TL.tl y) := by
            rcases Nat.lt_or_ge i (cp (TL.tl x) (TL.tl y)) with z | z
            · obtain ⟨u, h1, h2⟩ := cp_same _ _ i z
              rw [hc] at h1
              rw [hd] at h2
              exact absurd ((Option.some.inj h1).trans (Option.some.inj h2).symm) e
            · omega
          rw [← this] at q
          exact ⟨_, rfl, q⟩
      · rw [show decide ((i : Int) < ((y.length : Nat) : Int)) = false from decide_eq_false (by omega)]
        have : i = cp (TL.tl x) (TL.tl y) := by
          have := (cp_le (TL.tl x) (TL.tl y)).2
          omega
        rw [← this] at q
        exact ⟨_, rfl, q⟩
    · rw [show decide ((i : Int) < ((x.length : Nat) : Int)) = false from decide_eq_false (by omega)]
      have : i = cp (TL.tl x) (TL.tl y) := by
        have := (cp_le (TL.tl x) (TL.tl y)).1
        omega
      rw [← this] at q
      exact ⟨_, rfl, q⟩
def spFM (K : PySem.W.Frag) : Sp := fun vs H Q _ => ∃ (a : Addr) (ns : List Nd) (l : Nat) (z : Int) (i m : Nat), vs = [.ref a, .int z] ∧ z = i ∧ SqL K H a (vT ns) ∧ OkAll ns l ∧ wide l ≤ 1000000 ∧ (fms (ns.map cd))[i]? = some m ∧ Q (.int (m : Nat)) H
theorem ok_fm {f g c : Addr} {fd gd cd' : FuncData} {k : Nat} {tS tE : Tok} (F : Fun K "_first_mark" "_first_mark" sFM f fd) (U : Fun K "_first_unlike" "_first_unlike" sFU g gd) (gU : mg "_first_unlike" = some (.ref g)) (bU : Binds K gd ["one", "other"] [])
    (C : Fun K "_code_at" "_code_at" sCodeAt c cd') (gC : mg "_code_at" = some (.ref c)) (bC : Binds K cd' ["text", "at"] []) (ml : mg "len" = none) (gS : mg "SIGNS" = some (.str "0123456789 ()^" tS)) (gE : mg "ENDED" = some (.int 14 tE)) :
    FnOk P w K mg base CX0 (k + 2) f fd ["texts", "place"] (spFM K) := by
  have GU : FnOk P w K mg base CX0 (k + 1) g gd ["one", "other"] spFU := ok_fu U ml
  have GC : FnOk P w K mg base CX0 (k + 1) c cd' ["text", "at"] spCode := ok_code C ml gS gE
  refine F.ok scFM (fun vs H Q E h => ?_) (fun cdv A outer s H vs Q E hr h => ?_)
  · obtain ⟨a, ns, l, z, i, m, rfl, _⟩ := h
    rfl
  · obtain ⟨a, ns, l, z, i, m, rfl, rfl, hS, ok, hw, hm, q⟩ := h
    refine ⟨_, pss_cons (ps_if (pt_cmpR op_eq (pv 1) pe_int (nomark _)) (pss_one (ps_ret (pe_call GC hr (by rfl) gC C.kp bC .nil pass0 (pa_cons (pe_ix ix_list (pv 0) pe_int (fun _ _ => rfl)) (pa_cons pe_int pa_nil))))) pss_nil)
      (pss_cons (ps_set (i := 2) scFM.nd rfl (.inl rfl) (pe_call GU hr (by rfl) gU U.kp bU .nil pass0 (pa_cons (pe_ix ix_list (pv 0) (pe_op op_sub (pv 1) pe_int) (fun _ _ => rfl)) (pa_cons (pe_ix ix_list (pv 0) (pv 1) (fun _ _ => rfl)) pa_nil))))
      (pss_one (ps_ret (pe_op op_add (pe_op op_mul pe_int (pv 2)) (pe_call GC hr (by rfl) gC C.kp bC .nil pass0 (pa_cons (pe_ix ix_list (pv 0) (pv 1) (fun _ _ => rfl)) (pa_cons (pv 2) pa_nil))))))), ?_⟩
    have hi : i < ns.length := by
      have := (List.getElem?_eq_some_iff.mp hm).1
      rwa [fms_length, List.length_map] at this
    refine ⟨_, rfl, rfl, _, rfl, ite2 (fun e => ?_) (fun e => ?_)⟩
    · have e0 : (i : Int) = 0 := V.int.inj (of_decide_eq_true e)
      have e1 : i = 0 := by omega
      subst e1
      obtain ⟨n, hn⟩ := get_of hi
      have okn := ok.mem n (List.mem_of_getElem? hn)
      refine ⟨.ref a, rfl, a, _, ((0 : Nat) : Int), .str (txt n), rfl, rfl, hS, atI_nat (vT_get hn), txt n, cd n, 0, rfl, tl_txt n, cd_sg n, (len_cd okn hw).2, ?_⟩
      have : (fms (ns.map cd))[0]? = some (codeAt (cd n) 0) := by
        match ns, hn with
        | x :: r, hn =>
          have : x = n := by simpa using hn
          rw [this]
          rfl
      rw [hm] at this
      rw [← Option.some.inj this]
      exact q
    · have e1 : i ≠ 0 := fun z => e (by rw [z]; rfl)
      obtain ⟨j, rfl⟩ : ∃ j, i = j + 1 := ⟨i - 1, by omega⟩
      obtain ⟨x, hx⟩ := get_of (l := ns) (i := j) (by omega)
      obtain ⟨y, hy⟩ := get_of hi
      have okx := ok.mem x (List.mem_of_getElem? hx)
      have oky := ok.mem y (List.mem_of_getElem? hy)
      have em := fms_get (ns.map cd) j (cd x) (cd y) (by rw [List.getElem?_map, hx]; rfl) (by rw [List.getElem?_map, hy]; rfl)
      rw [hm] at em
      have em := Option.some.inj em
      refine ⟨.ref a, rfl, _, rfl, _, 1, rfl, rfl, a, _, _, .str (txt x), rfl, rfl, hS, at_of (j := j) (by omega) (vT_get hx), .ref a, rfl, _, rfl, a, _, _, .str (txt y), rfl, rfl, hS, atI_nat (vT_get hy), txt x, txt y, rfl, (len_cd okx hw).2, (len_cd oky hw).2, ?_⟩
      rw [tl_txt, tl_txt]
      refine ⟨_, rfl, 16, _, rfl, rfl, .inl ⟨by decide, by decide⟩, .ref a, rfl, _, rfl, a, _, _, .str (txt y), rfl, rfl, hS, atI_nat (vT_get hy), _, rfl, txt y, cd y, cp (cd x) (cd y), rfl, tl_txt y, cd_sg y, (len_cd oky hw).2, _, _, rfl, rfl, ?_⟩
      rw [em] at q
      unfold fmk at q
      rw [Int.natCast_add, Int.natCast_mul] at q
      exact q
/-- first_marks, of rows of nodes of less than m storeys -/
def spFirst (K : PySem.W.Frag) (m : Nat) : Sp := fun vs H Q _ => ∃ (a : Addr) (us : List V) (ns : List Nd) (l : Nat), vs = [.ref a] ∧ SqT K H a us ∧ NdsV K H us ns ∧ OkAll ns l ∧ wide l ≤ 1000000 ∧ (∀ n ∈ ns, ht n < m) ∧ ns.length ≤ 100000 ∧
  ∀ H' p, Same H H' → H' p = some (.tup ((fms (ns.map cd)).map fun n : Nat => V.int (n : Int))) → Q (.ref p) H'
structure FirstF (K : PySem.W.Frag) (mg : Str → Option Value) (fA fC fX f1 f2 f3 : Addr) (dA dC dX d1 d2 d3 : FuncData) (tS tE : Tok) : Prop where
  A : Fun K "is_run" "is_run" sIsRun fA dA
  C : Fun K "is_block" "is_block" sIsBlk fC dC
  X : Fun K "text_of" "text_of" sText fX dX
  F1 : Fun K "_first_mark" "_first_mark" sFM f1 d1
  F2 : Fun K "_first_unlike" "_first_unlike" sFU f2 d2
  F3 : Fun K "_code_at" "_code_at" sCodeAt f3 d3
  gA : mg "is_run" = some (.ref fA)
  gC : mg "is_block" = some (.ref fC)
  gX : mg "text_of" = some (.ref fX)
  gF1 : mg "_first_mark" = some (.ref f1)
  gF2 : mg "_first_unlike" = some (.ref f2)
  gF3 : mg "_code_at" = some (.ref f3)
  bA : Binds K dA ["value"] []
  bC : Binds K dC ["value"] []
  bX : Binds K dX ["node"] []
  bF1 : Binds K d1 ["texts", "place"] []
  bF2 : Binds K d2 ["one", "other"] []
  bF3 : Binds K d3 ["text", "at"] []
  SIGNS : mg "SIGNS" = some (.str "0123456789 ()^" tS)
  ENDED : mg "ENDED" = some (.int 14 tE)
  len : mg "len" = none
  tuple : mg "tuple" = none
  range : mg "range" = none
  isinstance : mg "isinstance" = none
  str : mg "str" = none
theorem ok_first {fA fC fX f1 f2 f3 f : Addr} {dA dC dX d1 d2 d3 fd : FuncData} {tS tE : Tok} (F : Fun K "first_marks" "first_marks" sFirst f fd) (X : FirstF K mg fA fC fX f1 f2 f3 dA dC dX d1 d2 d3 tS tE) (m : Nat) : FnOk P w K mg base CX0 (m + 3) f fd ["row"] (spFirst K m) := by
  have GX : FnOk P w K mg base CX0 (m + 1) fX dX ["node"] (spText K m) := ok_text X.X X.gX X.bX X.A X.gA X.bA X.C X.gC X.bC X.isinstance X.tuple X.str m
  have G1 : FnOk P w K mg base CX0 (m + 2) f1 d1 ["texts", "place"] (spFM K) := ok_fm X.F1 X.F2 X.gF2 X.bF2 X.F3 X.gF3 X.bF3 X.len X.SIGNS X.ENDED
  refine F.ok scFirst (fun vs H Q E h => ?_) (fun cdv A outer s H vs Q E hr h => ?_)
  · obtain ⟨a, us, ns, l, rfl, _⟩ := h
    rfl
  · obtain ⟨a, us, ns, l, rfl, hS, hn, ok, hw, hh, hl, q⟩ := h
    have r1 := hr.mono (j := m + 1) (by omega)
    refine ⟨_, pss_cons (ps_set (i := 1) scFirst.nd rfl (.inr rfl) (pe_lc (own := [("node", 2)]) (g := gName 2) (tt := tYes) rfl scFirst.nd (pi_tup (pv 0)) (blkOk_by (N := ["row", "texts", "node", "place"]) (sc := defScope sFirst) (by decide +kernel))
        (fun _ _ _ _ _ => pg_name (i := 2) scFirst.nd rfl (Or.inl rfl)) (fun _ _ _ _ _ => pts_nil) (fun _ _ _ _ _ => pe_call GX r1 (by rfl) X.gX X.X.kp X.bX .nil pass0 (pa_cons (pv 2) pa_nil))))
      (pss_one (ps_ret (pe_callTy call_tuple_of (by rfl) X.tuple PyProof.Rows.boot_tuple (pa_cons (pe_lc (own := [("place", 3)]) (g := gName 3) (tt := tYes) rfl scFirst.nd
        (pi_range1 (by rfl) X.range (pa_cons (pe_callB call_len_seq (by rfl) X.len PySem.boot_len (pa_cons (pv 1) pa_nil)) pa_nil)) (blkOk_by (N := ["row", "texts", "node", "place"]) (sc := defScope sFirst) (by decide +kernel))
        (fun _ _ _ _ _ => pg_name (i := 3) scFirst.nd rfl (Or.inl rfl)) (fun _ _ _ _ _ => pts_nil)
        (fun _ _ _ _ _ => pe_call G1 hr (by rfl) X.gF1 X.F1.kp X.bF1 .nil pass0 (pa_cons (pv 1) (pa_cons (pv 3) pa_nil)))) pa_nil)))), ?_⟩
    have hlu := hn.len
    refine ⟨.ref a, rfl, a, rfl, ⟨us, hS⟩, fun D nD => ?_⟩
    refine lc_tup (xs := us) (fun i H' => H' D = some (.lst (vT (ns.take i))) ∧ Same H H') ⟨by rw [List.take_zero]; exact upd_same, sameN nD⟩ (fun i H' _ hp => sameT hp.2 hS) (fun i u H' hu hp => ?_) (fun H1 hp => ?_)
    · obtain ⟨g1, s3⟩ := hp
      obtain ⟨x, hx, kx⟩ := (hn.up (.of s3)).get hu
      have hmem := List.mem_of_getElem? hx
      refine ⟨rfl, u, rfl, u, x, l, rfl, kx, ok.mem x hmem, hw, hh x hmem, fun H3 s4 => ⟨_, s4 _ _ g1, ?_, ?_, sameW (s3.trans s4) nD⟩⟩
      · rw [List.length_map]
        exact line5 (small_take hl)
      · rw [upd_same, take_more hx]
        exact congrArg (fun z => some (HO.lst z)) (show vT (ns.take i) ++ [V.str (txt x)] = vT (ns.take i ++ [x]) by unfold vT; rw [List.map_append]; rfl)
    obtain ⟨g1, s1⟩ := hp
    rw [hlu, List.take_length] at g1
    have lf : (fms (ns.map cd)).length = ns.length := by rw [fms_length, List.length_map]
    have lv : (vT ns).length = ns.length := List.length_map _
    refine ⟨.ref D, rfl, D, vT ns, rfl, .inl (.inl (.inl g1)), _, rfl, ?_, ?_, fun D2 nD2 => ?_⟩
    · show -(2 ^ 62) ≤ (((vT ns).length : Nat) : Int)
      omega
    · show (((vT ns).length : Nat) : Int) < 2 ^ 62
      rw [lv]
      omega
    refine lc_range (fun i H' => H' = upd H1 D2 (.lst (((fms (ns.map cd)).take i).map fun n : Nat => V.int (n : Int)))) (by rw [List.take_zero]; rfl) (fun i H' hi hp => ?_) (fun H' hp => ?_)
    · subst hp
      rw [Int.toNat_natCast, lv] at hi
      obtain ⟨mk, hmk⟩ := get_of (l := fms (ns.map cd)) (i := i) (by omega)
      refine ⟨rfl, .ref D, rfl, _, rfl, D, ns, l, _, i, mk, rfl, by omega, .inl (.inl (sameN nD2 _ _ g1)), ok, hw, hmk, _, upd_same, ?_, ?_⟩
      · rw [List.length_map]
        exact line5 (small_take (by omega))
      · rw [upd_upd, take_more hmk]
        exact congrArg (fun z => upd H1 D2 (.lst z)) (show ((fms (ns.map cd)).take i).map (fun n : Nat => V.int (n : Int)) ++ [V.int (mk : Int)] = ((fms (ns.map cd)).take i ++ [mk]).map (fun n : Nat => V.int (n : Int)) by rw [List.map_append]; rfl)
    · subst hp
      rw [Int.toNat_natCast, lv, ← lf, List.take_length]
      refine ⟨D2, _, rfl, .inl ⟨.inl (.inl upd_same), fun t nt => ?_⟩⟩
      exact q _ t (s1.trans ((sameN nD2).trans (sameN nt))) upd_same
end
/-! ### the later rounds -/
abbrev vN (ns : List Nat) : List V := ns.map fun n : Nat => V.int (n : Int)
theorem vN_get {ns : List Nat} {i n : Nat} (h : ns[i]? = some n) : (vN ns)[i]? = some (.int (n : Int)) := by
  rw [List.getElem?_map, h]
  rfl
theorem vN_len (ns : List Nat) : (vN ns).length = ns.length := List.length_map _
theorem vN_app (ns : List Nat) (n : Nat) : vN (ns ++ [n]) = vN ns ++ [.int (n : Int)] := List.map_append
section
variable {P : Program} {w : World} {K : PySem.W.Frag} {mg : Str → Option Value} {base : Heap}
theorem scNm : FnScope ["some", "place", "unlike", "lowest"] ["some", "place"] (defScope sNm) := ⟨rfl, rfl, rfl, by decide +kernel, rfl, by decide +kernel, by decide +kernel⟩
theorem scNext : FnScope ["some", "place"] ["some"] (defScope sNext) := ⟨rfl, rfl, rfl, by decide +kernel, rfl, by decide +kernel, by decide +kernel⟩
def spNm (K : PySem.W.Frag) : Sp := fun vs H Q _ => ∃ (a : Addr) (ns : List Nat) (z : Int) (i m : Nat), vs = [.ref a, .int z] ∧ z = i ∧ SqT K H a (vN ns) ∧ M07.Unl ns ∧ (M07.round ns)[i]? = some m ∧ Q (.int (m : Int)) H
theorem ok_nm {f : Addr} {fd : FuncData} {k : Nat} (F : Fun K "_next_mark" "_next_mark" sNm f fd) : FnOk P w K mg base CX0 (k + 1) f fd ["some", "place"] (spNm K) := by
  refine F.ok scNm (fun vs H Q E h => ?_) (fun cdv A outer s H vs Q E hr h => ?_)
  · obtain ⟨a, ns, z, i, m, rfl, _⟩ := h
    rfl
  · obtain ⟨a, ns, z, i, m, rfl, rfl, hS, un, hm, q⟩ := h
    refine ⟨_, pss_cons (ps_if (pt_cmpR op_eq (pv 1) pe_int (nomark _)) (pss_one (ps_ret (pe_op op_and (pe_ix ix_tup (pv 0) pe_int (fun _ _ => rfl)) pe_int))) pss_nil)
      (pss_cons (ps_set (i := 2) scNm.nd rfl (.inl rfl) (pe_op op_xor (pe_ix ix_tup (pv 0) (pe_op op_sub (pv 1) pe_int) (fun _ _ => rfl)) (pe_ix ix_tup (pv 0) (pv 1) (fun _ _ => rfl))))
      (pss_cons (ps_set (i := 3) scNm.nd rfl (.inl rfl) (pe_op op_sub (pe_bits (pe_op op_and (pv 2) (pe_un un_neg (pv 2)))) pe_int))
      (pss_one (ps_ret (pe_op op_add (pe_op op_mul pe_int (pv 3)) (pe_op op_and (pe_op op_shr (pe_ix ix_tup (pv 0) (pv 1) (fun _ _ => rfl)) (pv 3)) pe_int)))))), ?_⟩
    have hi : i < ns.length := by
      have := (List.getElem?_eq_some_iff.mp hm).1
      rwa [M07.round_length] at this
    refine ⟨.int i, rfl, rfl, _, rfl, ite2 (fun e => ?_) (fun e => ?_)⟩
    · have e0 : (i : Int) = 0 := V.int.inj (of_decide_eq_true e)
      have e1 : i = 0 := by omega
      subst e1
      match ns, hi, hm, hS with
      | n :: r, _, hm, hS =>
        have e2 : n % 2 = m := Option.some.inj hm
        refine ⟨.ref a, rfl, a, _, ((0 : Nat) : Int), .int n, rfl, rfl, hS, atI_nat (by rfl), n, 1, rfl, rfl, ?_⟩
        show Q (.int (Builtin.bitAnd (n : Int) 1)) H
        rw [PyProof.Rows.bitAnd_m1, ← show ((m : Nat) : Int) = (n : Int) % 2 by omega]
        exact q
    · have e1 : i ≠ 0 := fun z => e (by rw [z]; rfl)
      obtain ⟨j, rfl⟩ : ∃ j, i = j + 1 := ⟨i - 1, by omega⟩
      have gx : ns[j]? = some ns[j] := List.getElem?_eq_getElem (by omega)
      have gy : ns[j + 1]? = some ns[j + 1] := List.getElem?_eq_getElem hi
      have hne := M07.Unl.get un gx gy
      generalize ns[j] = x at gx hne
      generalize ns[j + 1] = y at gy hne
      have em := M07.round_get ns j x y gx gy
      rw [hm] at em
      have em := Option.some.inj em
      refine ⟨.ref a, rfl, .int ((j + 1 : Nat) : Int), rfl, _, 1, rfl, rfl, a, _, (j : Nat), .int x, rfl, ?_, hS, atI_nat (vN_get gx), .ref a, rfl, .int ((j + 1 : Nat) : Int), rfl, a, _, ((j + 1 : Nat) : Int), .int y, rfl, rfl, hS, atI_nat (vN_get gy), x, y, rfl, rfl, ?_⟩
      · show V.int (((j + 1 : Nat) : Int) - 1) = V.int (j : Nat)
        congr 1
        omega
      refine ⟨_, rfl, _, rfl, _, rfl, _, _, rfl, rfl, _, rfl, _, 1, rfl, rfl, _, rfl, 2, _, rfl, rfl, .inl ⟨by decide, by decide⟩, .ref a, rfl, .int ((j + 1 : Nat) : Int), rfl, a, _, ((j + 1 : Nat) : Int), .int y, rfl, rfl, hS, atI_nat (vN_get gy), _, rfl, y, _, rfl, rfl, ?_,
        _, 1, rfl, rfl, _, _, rfl, rfl, ?_⟩
      · show (0 : Int) ≤ ((Builtin.Int.intBits (Builtin.bitAnd (Builtin.bitXor (x : Int) (y : Int)) (-(Builtin.bitXor (x : Int) (y : Int)))) : Nat) : Int) - 1
        rw [M07.low_word hne]
        omega
      · have mw := M07.mark_word hne
        rw [← em] at mw
        rw [← mw] at q
        exact q
/-- next_marks -/
def spNext (K : PySem.W.Frag) : Sp := fun vs H Q _ => ∃ (a : Addr) (ns : List Nat), vs = [.ref a] ∧ SqT K H a (vN ns) ∧ M07.Unl ns ∧ ns.length ≤ 100000 ∧
  ∀ H' p, Same H H' → H' p = some (.tup (vN (M07.round ns))) → Q (.ref p) H'
theorem ok_next {f g : Addr} {fd gd : FuncData} {k : Nat} (F : Fun K "next_marks" "next_marks" sNext f fd) (M : Fun K "_next_mark" "_next_mark" sNm g gd) (gM : mg "_next_mark" = some (.ref g)) (bM : Binds K gd ["some", "place"] [])
    (ml : mg "len" = none) (mr : mg "range" = none) (mt : mg "tuple" = none) : FnOk P w K mg base CX0 (k + 2) f fd ["some"] (spNext K) := by
  have GM : FnOk P w K mg base CX0 (k + 1) g gd ["some", "place"] (spNm K) := ok_nm M
  refine F.ok scNext (fun vs H Q E h => ?_) (fun cdv A outer s H vs Q E hr h => ?_)
  · obtain ⟨a, ns, rfl, _⟩ := h
    rfl
  · obtain ⟨a, ns, rfl, hS, un, hl, q⟩ := h
    refine ⟨_, pss_one (ps_ret (pe_callTy call_tuple_of (by rfl) mt (by decide +kernel) (pa_cons (pe_lc (own := [("place", 1)]) (g := gName 1) (tt := tYes) rfl scNext.nd
      (pi_range1 (by rfl) mr (pa_cons (pe_callB call_len_seq (by rfl) ml PySem.boot_len (pa_cons (pv 0) pa_nil)) pa_nil)) (blkOk_by (N := ["some", "place"]) (sc := defScope sNext) (by decide +kernel))
      (fun _ _ _ _ _ => pg_name (i := 1) scNext.nd rfl (Or.inl rfl)) (fun _ _ _ _ _ => pts_nil)
      (fun _ _ _ _ _ => pe_call GM hr (by rfl) gM M.kp bM .nil pass0 (pa_cons (pv 0) (pa_cons (pv 1) pa_nil)))) pa_nil))), ?_⟩
    refine ⟨.ref a, rfl, a, _, rfl, .inr hS, _, rfl, ?_, ?_, fun D hD => ?_⟩
    · show -(2 ^ 62) ≤ (((vN ns).length : Nat) : Int)
      omega
    · show (((vN ns).length : Nat) : Int) < 2 ^ 62
      rw [vN_len]
      omega
    refine lc_range (fun i H' => H' = upd H D (.lst (vN ((M07.round ns).take i)))) (by rw [List.take_zero]; rfl) (fun i H' hi hp => ?_) (fun H' hp => ?_)
    · subst hp
      rw [Int.toNat_natCast, vN_len] at hi
      have hr' : i < (M07.round ns).length := by rw [M07.round_length]; exact hi
      have ge : (M07.round ns)[i]? = some (M07.round ns)[i] := List.getElem?_eq_getElem hr'
      refine ⟨rfl, .ref a, rfl, _, rfl, a, ns, _, i, _, rfl, by omega, sameT (sameN hD) hS, un, ge, vN ((M07.round ns).take i), upd_same, ?_, ?_⟩
      · rw [vN_len]
        exact line5 (small_take (by rw [M07.round_length]; exact hl))
      · rw [upd_upd, List.take_add_one, ge]
        exact congrArg (fun z => upd H D (.lst z)) (vN_app _ _).symm
    · subst hp
      rw [Int.toNat_natCast, vN_len, List.take_of_length_le (by rw [M07.round_length]; exact Nat.le_refl _)]
      refine ⟨D, _, rfl, .inl ⟨.inl (.inl upd_same), fun l hl' => ?_⟩⟩
      exact q _ _ (sameW (sameN hD) ((sameN hD).free hl')) upd_same
end
end C62.T

set_option Elab.async false
set_option linter.all false
set_option maxRecDepth 100000
namespace C62.T
open PySem PySem.Spec PyProof.Rows L2 Loc RZ
/-! ### marks, peaks, cuts, blocks -/
def rd : Nat → List Nat → List Nat
  | 0, l => l
  | i + 1, l => M07.round (rd i l)
theorem rd_len : ∀ i l, (rd i l).length = l.length
  | 0, _ => rfl
  | i + 1, l => by rw [rd, M07.round_length, rd_len i l]
theorem rd_unl : ∀ i l, M07.Unl l → M07.Unl (rd i l)
  | 0, _, h => h
  | i + 1, l, h => M07.round_unl _ (rd_unl i l h)
def mrk (ns : List Nd) : List Nat := rd 4 (fms (ns.map cd))
theorem mrk_len (ns : List Nd) : (mrk ns).length = ns.length := by
  unfold mrk
  rw [rd_len, fms_length, List.length_map]
def tops (ns : List Nd) : List Nat := M10.pks (mrk ns)
/-- the piece of a row -/
def pce (ns : List Nd) (z : Nat × Nat) : List Nd := (ns.take z.2).drop z.1
def pieces (ns : List Nd) : List (Nat × Nat) := M10.pcs ns.length (tops ns)
theorem gap_row {ns : List Nd} (h : 2 ≤ ns.length) : M10.Gap ns.length 0 (tops ns) := by
  have := M10.pks_gap (ms := mrk ns) (by rw [mrk_len]; exact h)
  rw [mrk_len] at this
  exact this
theorem pieces_cont {ns : List Nd} (h : 2 ≤ ns.length) : M10.Cont 0 ns.length (pieces ns) := M10.sts_cont (gap_row h)
section
variable {P : Program} {w : World} {K : PySem.W.Frag} {mg : Str → Option Value} {base : Heap}
theorem scMarks : FnScope ["row", "some", "_"] ["row"] (defScope sMarks) := ⟨rfl, rfl, rfl, by decide +kernel, rfl, by decide +kernel, by decide +kernel⟩
theorem scPeaks : FnScope ["row", "some", "places", "place"] ["row"] (defScope sPeaks) := ⟨rfl, rfl, rfl, by decide +kernel, rfl, by decide +kernel, by decide +kernel⟩
theorem scCuts : FnScope ["row", "tops", "begins", "ends", "places", "begin", "end"] ["row"] (defScope sCuts) := ⟨rfl, rfl, rfl, by decide +kernel, rfl, by decide +kernel, by decide +kernel⟩
theorem scBlocks : FnScope ["row", "begins", "ends", "begin", "end"] ["row"] (defScope sBlocks) := ⟨rfl, rfl, rfl, by decide +kernel, rfl, by decide +kernel, by decide +kernel⟩
/-- a row of nodes -/
def RowV (K : PySem.W.Frag) (m : Nat) (H : Hp) (a : Addr) (ns : List Nd) : Prop := ∃ us l, SqT K H a us ∧ NdsV K H us ns ∧ OkAll ns l ∧ Unb ns ∧ wide l ≤ 1000000 ∧ (∀ n ∈ ns, ht n < m) ∧ 2 ≤ ns.length ∧ ns.length ≤ 100000
theorem RowV.same {m : Nat} {H H' : Hp} {a : Addr} {ns : List Nd} (h : RowV K m H a ns) (s : Same H H') : RowV K m H' a ns := by
  obtain ⟨us, l, h1, h2, h3⟩ := h
  exact ⟨us, l, sameT s h1, h2.up (.of s), h3⟩
theorem RowV.at {m : Nat} {H : Hp} {a : Addr} {ns : List Nd} (h : RowV K m H a ns) : ∃ us, SqT K H a us ∧ us.length = ns.length ∧ 2 ≤ ns.length ∧ ns.length ≤ 100000 := by
  obtain ⟨us, l, h1, h2, _, _, _, _, h3, h4⟩ := h
  exact ⟨us, h1, h2.len, h3, h4⟩
def spMarks (K : PySem.W.Frag) (m : Nat) : Sp := fun vs H Q _ => ∃ (a : Addr) (ns : List Nd), vs = [.ref a] ∧ RowV K m H a ns ∧ ∀ H' p, Same H H' → SqT K H' p (vN (mrk ns)) → Q (.ref p) H'
def spPeaks (K : PySem.W.Frag) (m : Nat) : Sp := fun vs H Q _ => ∃ (a : Addr) (ns : List Nd), vs = [.ref a] ∧ RowV K m H a ns ∧ ∀ H' p, Same H H' → SqT K H' p (vN (tops ns)) → Q (.ref p) H'
def spCuts (K : PySem.W.Frag) (m : Nat) : Sp := fun vs H Q _ => ∃ (a : Addr) (ns : List Nd), vs = [.ref a] ∧ RowV K m H a ns ∧ ∀ H' p, Same H H' → SqT K H' p (vN ((pieces ns).map (·.1))) → Q (.ref p) H'
def spBlocks (K : PySem.W.Frag) (m : Nat) : Sp := fun vs H Q _ => ∃ (a : Addr) (ns : List Nd), vs = [.ref a] ∧ RowV K m H a ns ∧
  ∀ H' p us, Same H H' → SqT K H' p us → NdsV K H' us ((pieces ns).map fun z => Nd.blk (pce ns z)) → Q (.ref p) H'
theorem ok_marks {f g h' : Addr} {fd gd hd : FuncData} {m : Nat} (F : Fun K "marks" "marks" sMarks f fd) (G : FnOk P w K mg base CX0 (m + 3) g gd ["row"] (spFirst K m)) (G' : Fun K "first_marks" "first_marks" sFirst g gd) (gG : mg "first_marks" = some (.ref g)) (bG : Binds K gd ["row"] [])
    (N : FnOk P w K mg base CX0 2 h' hd ["some"] (spNext K)) (N' : Fun K "next_marks" "next_marks" sNext h' hd) (gN : mg "next_marks" = some (.ref h')) (bN : Binds K hd ["some"] []) (mr : mg "range" = none) : FnOk P w K mg base CX0 (m + 4) f fd ["row"] (spMarks K m) := by
  refine F.ok scMarks (fun vs H Q E h => ?_) (fun cdv A outer s H vs Q E hr h => ?_)
  · obtain ⟨a, ns, rfl, _⟩ := h
    rfl
  · obtain ⟨a, ns, rfl, ⟨us, l, hT, hN, ok, un, hw, hh, h2, hl⟩, q⟩ := h
    have r2 := hr.mono (j := 2) (by omega)
    refine ⟨_, pss_cons (ps_set (i := 1) scMarks.nd rfl (.inl rfl) (pe_call G hr (by rfl) gG G'.kp bG .nil pass0 (pa_cons (pv 0) pa_nil)))
      (pss_cons (ps_for PassesOwn.never rfl (pi_range1 (by rfl) mr (pa_cons pe_int pa_nil)) (pg_name (i := 2) scMarks.nd rfl (.inl rfl))
        (pss_one (ps_set (i := 1) scMarks.nd rfl (.inl rfl) (pe_call N r2 (by rfl) gN N'.kp bN .nil pass0 (pa_cons (pv 1) pa_nil)))))
      (pss_one (ps_ret (pv 1)))), ?_⟩
    refine ⟨.ref a, rfl, a, us, ns, l, rfl, hT, hN, ok, hw, hh, hl, fun H1 p s1 hp => ?_⟩
    have u0 : M07.Unl (fms (ns.map cd)) := fms_unl _ (cds_sgs ns) (unlT_of ok un)
    refine ⟨4, rfl, by decide, by decide, ?_⟩
    refine for_range (fun i σ H' => ∃ p y2, σ = [some (.ref a), some (.ref p), y2] ∧ SqT K H' p (vN (rd i (fms (ns.map cd)))) ∧ Same H H') ⟨p, none, rfl, .inl (.inl hp), s1⟩ (fun i σ H2 hi hp => ?_) (fun σ H' hp => ?_)
    · obtain ⟨p, y2, rfl, hp, s2⟩ := hp
      refine ⟨.ref p, rfl, p, _, rfl, hp, rd_unl i _ u0, ?_, fun H3 p3 s3 h3 => ⟨p3, _, rfl, .inl (.inl h3), s2.trans s3⟩⟩
      rw [rd_len, fms_length, List.length_map]
      exact hl
    · obtain ⟨p, y2, rfl, hp, s2⟩ := hp
      exact ⟨_, rfl, q _ _ s2 hp⟩
theorem freeS {H H' : Hp} {a : Addr} (s : Same H H') (h : H' a = none) : H a = none := by
  cases z : H a with
  | none => rfl
  | some u =>
    rw [s _ _ z] at h
    cases h
theorem range'_more (s n : Nat) : List.range' s (n + 1) = List.range' s n ++ [s + n] := by
  rw [List.range'_concat]
  simp
theorem ok_peaks {f g : Addr} {fd gd : FuncData} {m : Nat} (F : Fun K "peaks" "peaks" sPeaks f fd) (G : FnOk P w K mg base CX0 (m + 4) g gd ["row"] (spMarks K m)) (G' : Fun K "marks" "marks" sMarks g gd) (gG : mg "marks" = some (.ref g)) (bG : Binds K gd ["row"] [])
    (mr : mg "range" = none) (ml : mg "len" = none) (mt : mg "tuple" = none) : FnOk P w K mg base CX0 (m + 5) f fd ["row"] (spPeaks K m) := by
  refine F.ok scPeaks (fun vs H Q E h => ?_) (fun cdv A outer s H vs Q E hr h => ?_)
  · obtain ⟨a, ns, rfl, _⟩ := h
    rfl
  · obtain ⟨a, ns, rfl, hR, q⟩ := h
    refine ⟨_, pss_cons (ps_set (i := 1) scPeaks.nd rfl (.inr rfl) (pe_call G hr (by rfl) gG G'.kp bG .nil pass0 (pa_cons (pv 0) pa_nil)))
      (pss_cons (ps_set (i := 2) scPeaks.nd rfl (.inl rfl) (pe_callTy cr_range2 (by rfl) mr (by decide +kernel) (pa_cons pe_int (pa_cons (pe_op op_sub (pe_callB call_len_seq (by rfl) ml PySem.boot_len (pa_cons (pv 0) pa_nil)) pe_int) pa_nil))))
      (pss_one (ps_ret (pe_callTy call_tuple_of (by rfl) mt PyProof.Rows.boot_tuple (pa_cons (pe_lc (own := [("place", 3)]) (g := gName 3)
        (tt := tTest (tChain (rI0 fun i j => .bl (decide (i < j))) (rI0 fun i j => .bl (decide (j < i))) (tOp (rIxT K) (tVar 1) (tOp (rI0 fun i j => .int (i - j)) (tVar 3) (tC (.int 1)))) (tOp (rIxT K) (tVar 1) (tVar 3)) (tOp (rIxT K) (tVar 1) (tOp (rI0 fun i j => .int (i + j)) (tVar 3) (tC (.int 1))))))
        rfl scPeaks.nd (pi_rngV (pv 2)) (blkOk_by (N := ["row", "some", "places", "place"]) (sc := defScope sPeaks) (by decide +kernel))
        (fun _ _ _ _ _ => pg_name (i := 3) scPeaks.nd rfl (Or.inl rfl))
        (fun _ _ _ _ _ => pts_one (pt_chain op_lt op_gt (pe_ix ix_tup (pv 1) (pe_op op_sub (pv 3) pe_int) (fun _ _ => rfl)) (pe_ix ix_tup (pv 1) (pv 3) (fun _ _ => rfl)) (pe_ix ix_tup (pv 1) (pe_op op_add (pv 3) pe_int) (fun _ _ => rfl))))
        (fun _ _ _ _ _ => pv 3)) pa_nil))))), ?_⟩
    refine ⟨.ref a, rfl, a, ns, rfl, hR, fun H1 p s1 hp => ?_⟩
    obtain ⟨us, hT, hlu, h2, hl⟩ := (hR.same s1).at
    refine ⟨.ref a, rfl, a, us, rfl, .inr hT, _, _, rfl, rfl, 2, _, rfl, fun r nr => ?_⟩
    have lm := mrk_len ns
    have sR := sameN (o := .rng 2 (((us.length : Nat) : Int) - 1)) nr
    refine ⟨.ref r, rfl, r, 2, _, rfl, upd_same, ⟨by decide, by decide, by omega, by omega⟩, fun D nD => ?_⟩
    have n0 : ((((us.length : Nat) : Int) - 1) - 2).toNat = ns.length - 3 := by omega
    refine lc_range (fun i H' => H' D = some (.lst (vN ((List.range' 2 i).filter (M10.pk (mrk ns))))) ∧ Same H1 H') ⟨upd_same, sR.trans (sameN nD)⟩ (fun i H' hi hp' => ?_) (fun H' hp' => ?_)
    · obtain ⟨gD, sD⟩ := hp'
      rw [n0] at hi
      have pM := sameT sD hp
      obtain ⟨x, hx⟩ := get_of (l := mrk ns) (i := i + 1) (by omega)
      obtain ⟨y, hy⟩ := get_of (l := mrk ns) (i := i + 2) (by omega)
      obtain ⟨z, hz⟩ := get_of (l := mrk ns) (i := i + 3) (by omega)
      have ek : M10.pk (mrk ns) (2 + i) = (decide (x < y) && decide (z < y)) := by
        unfold M10.pk
        rw [show 2 + i - 1 = i + 1 by omega, show 2 + i = i + 2 by omega, hx, hy, show i + 2 + 1 = i + 3 by omega, hz]
      refine ⟨rfl, ?_⟩
      refine ⟨.ref p, rfl, _, rfl, _, 1, rfl, rfl, p, _, ((i + 1 : Nat) : Int), .int x, rfl, int_congr (by omega), pM, atI_nat (vN_get hx), .ref p, rfl, _, rfl, p, _, ((i + 2 : Nat) : Int), .int y, rfl, int_congr (by omega), pM, atI_nat (vN_get hy), x, y, rfl, rfl, _, rfl, ?_⟩
      have keep : (decide (x < y) && decide (z < y)) = false → H' D = some (.lst (vN ((List.range' 2 (i + 1)).filter (M10.pk (mrk ns))))) ∧ Same H1 H' := fun e => by
        rw [range'_more, List.filter_append, List.filter_cons_of_neg (by rw [ek, e]; simp), List.filter_nil, List.append_nil]
        exact ⟨gD, sD⟩
      refine ite2 (fun e => ?_) (fun e => ?_)
      · have e1 : x < y := by
          have := of_decide_eq_true e
          omega
        refine ⟨.ref p, rfl, _, rfl, _, 1, rfl, rfl, p, _, ((i + 3 : Nat) : Int), .int z, rfl, int_congr (by omega), pM, atI_nat (vN_get hz), y, z, rfl, rfl, _, rfl, ite2 (fun e2 => ?_) (fun e2 => ?_)⟩
        · have e3 : z < y := by
            have := of_decide_eq_true e2
            omega
          refine ⟨_, rfl, _, gD, ?_, ?_, sameW sD (freeS sR nD)⟩
          · rw [vN_len]
            refine line5 (Nat.le_trans (List.length_filter_le _ _) ?_)
            rw [List.length_range']
            omega
          · rw [upd_same, range'_more, List.filter_append, List.filter_cons_of_pos (by rw [ek, decide_eq_true e1, decide_eq_true e3]; rfl), List.filter_nil, vN_app]
            exact congrArg (fun z => some (HO.lst (_ ++ [z]))) (int_congr (by omega))
        · refine keep ?_
          have e3 : ¬ z < y := fun c => e2 (decide_eq_true (by omega))
          rw [decide_eq_false e3, Bool.and_false]
      · refine ⟨_, rfl, iteF (keep ?_)⟩
        have e3 : ¬ x < y := fun c => e (decide_eq_true (by omega))
        rw [decide_eq_false e3, Bool.false_and]
    · obtain ⟨gD, sD⟩ := hp'
      rw [n0] at gD
      refine ⟨D, _, rfl, .inl ⟨.inl (.inl gD), fun t nt => q _ t (s1.trans (sD.trans (sameN nt))) (.inl (.inl ?_))⟩⟩
      rw [upd_same]
      unfold tops M10.pks
      rw [lm]
theorem ndsV_drop {H : Hp} : ∀ {ps : List Nd} {vs : List V} (k : Nat), NdsV K H vs ps → NdsV K H (vs.drop k) (ps.drop k)
  | _, _, 0, h => h
  | [], vs, k + 1, h => by
    have := h.inv0
    subst this
    exact h
  | p :: ps, vs, k + 1, h => by
    obtain ⟨v, r, rfl, _, h2⟩ := h.inv
    exact ndsV_drop k h2
theorem slice_any {H : Hp} {a : Addr} {xs : List V} {b e : Nat} {Q : VK} (h : SqT K H a xs) (h1 : b ≤ e) (h2 : e ≤ xs.length) (q : ∀ H' t, Same H H' → SqT K H' t ((xs.take e).drop b) → Q (.ref t) H') : rSlA K (.ref a) (some (b : Int)) (some (e : Int)) H Q := by
  refine ⟨a, xs, rfl, h, fun hw => ?_, fun hw p hp => q _ p (sameN hp) (.inl (.inl ?_))⟩
  · rw [HT.sIx_nat, HT.sIx_nat] at hw
    have e1 : b = 0 := by omega
    have e2 : e = xs.length := by omega
    subst e1 e2
    refine q H a (Same.refl H) ?_
    rw [List.take_length]
    exact h
  · rw [upd_same]
    unfold cutV
    rw [HT.sIx_nat, HT.sIx_nat, Nat.min_eq_left h2, Nat.min_eq_left (Nat.le_trans h1 h2), List.drop_take]
theorem cat_any {H : Hp} {a b : Addr} {xs ys : List V} {Q : VK} (h : SqT K H a xs) (k : SqT K H b ys) (len : xs.length + ys.length ≤ sizeLine) (q : ∀ H' t, Same H H' → SqT K H' t (xs ++ ys) → Q (.ref t) H') : rCatA K (.ref a) (.ref b) H Q := by
  refine ⟨a, b, xs, ys, rfl, rfl, h, k, len, fun e => q H b (Same.refl H) (by rw [e]; exact k), fun _ e => q H a (Same.refl H) (by rw [e, List.append_nil]; exact h), fun _ _ p hp => q _ p (sameN hp) (.inl (.inl upd_same))⟩
theorem pieces_fst_len {ns : List Nd} (h : 2 ≤ ns.length) : (pieces ns).length ≤ ns.length := by
  have := (pieces_cont h).len
  omega
theorem ok_cuts {f g : Addr} {fd gd : FuncData} {m : Nat} (F : Fun K "cuts" "cuts" sCuts f fd) (G : FnOk P w K mg base CX0 (m + 5) g gd ["row"] (spPeaks K m)) (G' : Fun K "peaks" "peaks" sPeaks g gd) (gG : mg "peaks" = some (.ref g)) (bG : Binds K gd ["row"] [])
    (mr : mg "range" = none) (ml : mg "len" = none) (mt : mg "tuple" = none) (mz : mg "zip" = none) (mlist : mg "list" = none) : FnOk P w K mg base CX0 (m + 6) f fd ["row"] (spCuts K m) := by
  refine F.ok scCuts (fun vs H Q E h => ?_) (fun cdv A outer s H vs Q E hr h => ?_)
  · obtain ⟨a, ns, rfl, _⟩ := h
    rfl
  · obtain ⟨a, ns, rfl, hR, q⟩ := h
    refine ⟨_, pss_cons (ps_set (i := 1) scCuts.nd rfl (.inl rfl) (pe_call G hr (by rfl) gG G'.kp bG .nil pass0 (pa_cons (pv 0) pa_nil)))
      (pss_cons (ps_set (i := 2) scCuts.nd rfl (.inl rfl) (pe_op op_catA (pe_tup (pa_cons pe_int pa_nil)) (pv 1)))
      (pss_cons (ps_set (i := 3) scCuts.nd rfl (.inl rfl) (pe_op op_catA (pv 1) (pe_tup (pa_cons (pe_callB call_len_seq (by rfl) ml PySem.boot_len (pa_cons (pv 0) pa_nil)) pa_nil))))
      (pss_cons (ps_set (i := 4) scCuts.nd rfl (.inl rfl) (pe_lst pa_nil))
      (pss_cons (ps_for PassesOwn.never rfl (pi_zipA (by rfl) mz (pa_cons (pv 2) (pa_cons (pv 3) pa_nil))) (pg_tup rfl (pgs_cons (pg_name (i := 5) scCuts.nd rfl (.inl rfl)) (pgs_cons (pg_name (i := 6) scCuts.nd rfl (.inl rfl)) pgs_nil)))
        (pss_one (ps_expr (pe_bm PySem.F.plainAttrs_list PySem.F.slot_list_extend PySem.F.type_list_extend mt_extend (pv 4)
          (pa_cons (pe_listRg3 (by rfl) (by rfl) mlist (by rfl) mr (pa_cons (pv 5) (pa_cons (pe_op op_sub (pv 6) pe_int) (pa_cons pe_int pa_nil)))) pa_nil)))))
      (pss_one (ps_ret (pe_callTy call_tuple_of (by rfl) mt PyProof.Rows.boot_tuple (pa_cons (pv 4) pa_nil)))))))), ?_⟩
    refine ⟨.ref a, rfl, a, ns, rfl, hR, fun H1 p s1 hp => ?_⟩
    obtain ⟨us, hT, hlu, h2, hl⟩ := (hR.same s1).at
    have gap := gap_row h2
    have con := pieces_cont h2
    have lp := pieces_fst_len h2
    unfold pieces M10.pcs at con lp
    have tl : (tops ns).length ≤ ns.length := by
      unfold tops M10.pks
      refine Nat.le_trans (List.length_filter_le _ _) ?_
      rw [List.length_range', mrk_len]
      omega
    refine ⟨(show 1 ≤ sizeLine from by decide), fun t0 n0 => ⟨.ref p, rfl, cat_any (.inl (.inl upd_same)) (sameT (sameN n0) hp) (Nat.le_trans (show 1 + (vN (tops ns)).length ≤ 100001 by rw [vN_len]; omega) (by decide)) fun H2 b s2 hb => ?_⟩⟩
    have s12 := (sameN (o := .tup [.int 0]) n0).trans s2
    refine ⟨.ref p, rfl, .ref a, rfl, a, us, rfl, .inr (sameT s12 hT), (show 1 ≤ sizeLine from by decide), fun t3 n3 => cat_any (sameT (s12.trans (sameN n3)) hp) (.inl (.inl upd_same)) (Nat.le_trans (show (vN (tops ns)).length + 1 ≤ 100001 by rw [vN_len]; omega) (by decide)) fun H3 e s3 he => ?_⟩
    have s23 := (sameN (o := .tup [.int ((us.length : Nat) : Int)]) n3).trans s3
    have hb3 : SqT K H3 b (vN (0 :: tops ns)) := sameT s23 hb
    have he3 : SqT K H3 e (vN (tops ns ++ [ns.length])) := by
      rw [vN_app, ← hlu]
      exact he
    have s13 := s12.trans s23
    rw [← M10.sts_fst ns.length 0 (tops ns)] at hb3
    rw [← M10.sts_snd ns.length 0 (tops ns)] at he3
    refine ⟨(show 0 ≤ sizeLine from by decide), fun L nL => ?_⟩
    have sL := sameN (o := .lst []) nL
    refine ⟨.ref b, rfl, .ref e, rfl, b, e, _, _, rfl, .inr ⟨sameT sL hb3, sameT sL he3, ?_⟩⟩
    generalize hst : M10.sts ns.length 0 (tops ns) = st at hb3 he3 con lp
    refine for_zipT (xs := vN (st.map (·.1))) (ys := vN (st.map (·.2))) (by simp) (fun i σ H' => ∃ y5 y6, σ = [some (.ref a), some (.ref p), some (.ref b), some (.ref e), some (.ref L), y5, y6] ∧ H' L = some (.lst (vN (((st.take i).flatMap M10.stz).map (·.1)))) ∧ Same H3 H')
      ⟨none, none, rfl, upd_same, sL⟩ (fun i σ H' hp' => ?_) (fun i x y T σ H' hx hy hp' nT => ?_) (fun σ H' hp' => ?_)
    · obtain ⟨_, _, _, _, s4⟩ := hp'
      exact ⟨sameT s4 hb3, sameT s4 he3⟩
    · obtain ⟨y5, y6, rfl, gL, s4⟩ := hp'
      obtain ⟨z, hz, rfl⟩ : ∃ z, st[i]? = some z ∧ x = .int (z.1 : Nat) := by
        rw [List.getElem?_map, List.getElem?_map, Option.map_map] at hx
        obtain ⟨z, hz, rfl⟩ := Option.map_eq_some_iff.mp hx
        exact ⟨z, hz, rfl⟩
      have ey : y = .int (z.2 : Nat) := by
        rw [List.getElem?_map, List.getElem?_map, hz] at hy
        exact (Option.some.inj hy).symm
      subst ey
      have hzb := M10.sts_gap gap z (by rw [hst]; exact List.mem_of_getElem? hz)
      obtain ⟨d, hd⟩ : ∃ d, z.2 = z.1 + d := ⟨z.2 - z.1, by omega⟩
      have d2 : 2 ≤ d := by omega
      have gT := sameN (o := .tup [V.int (z.1 : Nat), .int (z.2 : Nat)]) nT
      refine ⟨T, [.int (z.1 : Nat), .int (z.2 : Nat)], rfl, .inl (.inl upd_same), rfl, _, [.int (z.2 : Nat)], rfl, _, [], rfl, rfl, ?_⟩
      refine ⟨.ref L, rfl, .inl ⟨rfl, _, .inl (.inl (gT _ _ gL))⟩, _, rfl, _, rfl, _, 1, rfl, rfl, (z.1 : Nat), _, 2, d / 2, rfl, by rw [hd]; exact rgC_two d2 (by omega), by omega, fun l5 n5 => ?_⟩
      have tk : st.take (i + 1) = st.take i ++ [z] := take_more hz
      have ev : ((List.range (d / 2)).map fun k => V.int (((z.1 : Nat) : Int) + (k : Nat) * 2)) = vN ((M10.stz z).map (·.1)) := by
        unfold M10.stz
        rw [hd, Nat.add_sub_cancel_left, M10.str_fst d z.1 d2]
        show _ = List.map (fun n : Nat => V.int (n : Int)) (List.map (fun k => z.1 + k * 2) (List.range (d / 2)))
        rw [List.map_map]
        refine List.map_congr_left fun k _ => int_congr ?_
        show (z.1 : Int) + (k : Nat) * 2 = ((z.1 + k * 2 : Nat) : Int)
        omega
      have lall : (((st.take i).flatMap M10.stz).map (·.1)).length + ((M10.stz z).map (·.1)).length ≤ ns.length := by
        have e1 : (st.take (i + 1)).flatMap M10.stz ++ (st.drop (i + 1)).flatMap M10.stz = st.flatMap M10.stz := by rw [← List.flatMap_append, List.take_append_drop]
        have e2 := congrArg List.length e1
        rw [List.length_append, tk, List.flatMap_append, List.length_append] at e2
        have e3 : ([z].flatMap M10.stz) = M10.stz z := by simp
        rw [e3] at e2
        rw [List.length_map, List.length_map]
        omega
      refine ⟨L, l5, _, _, rfl, rfl, sameN n5 _ _ (gT _ _ gL), upd_same, ?_, _, _, rfl, ?_, sameW ((s4.trans gT).trans (sameN n5)) nL⟩
      · rw [ev, vN_len, vN_len]
        exact Nat.le_trans lall (Nat.le_of_lt (line5 hl))
      · rw [upd_same, ev, tk, List.flatMap_append, List.map_append]
        unfold vN
        rw [List.map_append]
        simp
    · obtain ⟨y5, y6, rfl, gL, s4⟩ := hp'
      have full : st.take (vN (st.map (·.1))).length = st := List.take_of_length_le (by simp)
      rw [full] at gL
      refine ⟨.ref L, rfl, L, _, rfl, .inl ⟨.inl (.inl gL), fun t nt => q _ t (((s1.trans s13).trans s4).trans (sameN nt)) (.inl (.inl ?_))⟩⟩
      rw [upd_same]
      unfold pieces M10.pcs
      rw [hst]
theorem ok_blocks {f g : Addr} {fd gd : FuncData} {m : Nat} (F : Fun K "blocks" "blocks" sBlocks f fd) (G : FnOk P w K mg base CX0 (m + 6) g gd ["row"] (spCuts K m)) (G' : Fun K "cuts" "cuts" sCuts g gd) (gG : mg "cuts" = some (.ref g)) (bG : Binds K gd ["row"] [])
    (ml : mg "len" = none) (mt : mg "tuple" = none) (mz : mg "zip" = none) : FnOk P w K mg base CX0 (m + 7) f fd ["row"] (spBlocks K m) := by
  refine F.ok scBlocks (fun vs H Q E h => ?_) (fun cdv A outer s H vs Q E hr h => ?_)
  · obtain ⟨a, ns, rfl, _⟩ := h
    rfl
  · obtain ⟨a, ns, rfl, hR, q⟩ := h
    refine ⟨_, pss_cons (ps_set (i := 1) scBlocks.nd rfl (.inl rfl) (pe_call G hr (by rfl) gG G'.kp bG .nil pass0 (pa_cons (pv 0) pa_nil)))
      (pss_cons (ps_set (i := 2) scBlocks.nd rfl (.inl rfl) (pe_op op_catA (pe_slice sl_tupA (pv 1) (po_some pe_int) po_none) (pe_tup (pa_cons (pe_callB call_len_seq (by rfl) ml PySem.boot_len (pa_cons (pv 0) pa_nil)) pa_nil))))
      (pss_one (ps_ret (pe_callTy call_tuple_of (by rfl) mt PyProof.Rows.boot_tuple (pa_cons (pe_lc (own := [("begin", 3), ("end", 4)]) (g := gTup K 2 (gCons (gName 3) (gCons (gName 4) gNil))) (tt := tYes)
        (te := tTup (tCons (tC (.str "block")) (tCons (tSl (rSlA K) (tVar 0) (tPart (tVar 3)) (tPart (tVar 4))) tNil)))
        rfl scBlocks.nd (pi_zipA (by rfl) mz (pa_cons (pv 1) (pa_cons (pv 2) pa_nil))) (blkOk_by (N := ["row", "begins", "ends", "begin", "end"]) (sc := defScope sBlocks) (by decide +kernel))
        (fun _ _ _ _ _ => pg_tup rfl (pgs_cons (pg_name (i := 3) scBlocks.nd rfl (Or.inl rfl) (hf := Or.inr rfl)) (pgs_cons (pg_name (i := 4) scBlocks.nd rfl (Or.inl rfl) (hf := Or.inr rfl)) pgs_nil))) (fun _ _ _ _ _ => pts_nil)
        (fun _ _ _ _ _ => pe_tup (pa_cons pe_str (pa_cons (pe_slice sl_tupA (pv 0) (po_some (pv 3)) (po_some (pv 4))) pa_nil)))) pa_nil))))), ?_⟩
    refine ⟨.ref a, rfl, a, ns, rfl, hR, fun H1 b s1 hb => ?_⟩
    obtain ⟨us, l0, hT, hN, _, _, _, _, h2, hl⟩ := hR.same s1
    have hlu := hN.len
    have con := pieces_cont h2
    have lp := pieces_fst_len h2
    have bnd := con.bnd.2
    generalize pieces ns = pz at hb con lp bnd q ⊢
    obtain ⟨z0, r0, rfl⟩ : ∃ z r, pz = z :: r := by
      cases pz with
      | nil =>
        have : 0 = ns.length := con
        omega
      | cons z r => exact ⟨z, r, rfl⟩
    have ee := con.ends
    refine ⟨.ref b, rfl, 1, rfl, b, _, rfl, hb, fun hw => ?_, fun hw t nt => ?_⟩
    · exfalso
      have := hw.1
      rw [show (1 : Int) = ((1 : Nat) : Int) from rfl, HT.sIx_nat, vN_len, List.length_map, List.length_cons] at this
      omega
    have st := sameN (o := .tup (cutV (vN ((z0 :: r0).map (·.1))) (some 1) none)) nt
    have ht : SqT K (upd H1 t (.tup (cutV (vN ((z0 :: r0).map (·.1))) (some 1) none))) t (vN (r0.map (·.1))) := by
      refine .inl (.inl ?_)
      rw [upd_same]
      refine congrArg (fun z => some (HO.tup z)) ?_
      unfold cutV
      rw [show (1 : Int) = ((1 : Nat) : Int) from rfl, HT.sIx_nat, HT.sIx_none, vN_len, List.length_map, List.length_cons, Nat.min_eq_left (by omega)]
      refine List.take_of_length_le ?_
      simp
    generalize upd H1 t (.tup (cutV (vN ((z0 :: r0).map (·.1))) (some 1) none)) = H2 at st ht ⊢
    refine ⟨.ref a, rfl, a, us, rfl, .inr (sameT st hT), (show 1 ≤ sizeLine from by decide), fun t3 n3 => cat_any (sameT (sameN n3) ht) (.inl (.inl upd_same)) (Nat.le_trans (show (vN (r0.map (·.1))).length + 1 ≤ 100001 by rw [vN_len, List.length_map]; rw [List.length_cons] at lp; omega) (by decide)) fun H3 e s3 he => ?_⟩
    have s13 := (st.trans (sameN (o := .tup [.int ((us.length : Nat) : Int)]) n3)).trans s3
    have he : SqT K H3 e (vN ((z0 :: r0).map (·.2))) := by
      rw [← ee, vN_app, ← hlu]
      exact he
    have hb := sameT s13 hb
    have hT := sameT s13 hT
    have hN := hN.up (.of (K := K) s13)
    generalize z0 :: r0 = pz at he hb lp bnd q ⊢
    refine ⟨.ref b, rfl, .ref e, rfl, b, e, _, _, rfl, .inr ⟨hb, he, fun D nD => ?_⟩⟩
    refine lc_zipT (xs := vN (pz.map (·.1))) (ys := vN (pz.map (·.2))) (fun i H' => i ≤ pz.length ∧ ∃ ws, H' D = some (.lst ws) ∧ NdsV K H' ws ((pz.take i).map fun z => Nd.blk (pce ns z)) ∧ Same H3 H') ⟨Nat.zero_le _, [], upd_same, .nil, sameN nD⟩ (fun i H' hp' => ?_) (fun i x y T H' hx hy hp' nT => ?_) (fun i H' hp' hi => ?_)
    · obtain ⟨_, _, _, _, s4⟩ := hp'
      exact ⟨sameT s4 hb, sameT s4 he⟩
    · obtain ⟨hi, ws, gD, dD, s4⟩ := hp'
      obtain ⟨z, hz, rfl⟩ : ∃ z, pz[i]? = some z ∧ x = .int (z.1 : Nat) := by
        rw [List.getElem?_map, List.getElem?_map, Option.map_map] at hx
        obtain ⟨z, hz, rfl⟩ := Option.map_eq_some_iff.mp hx
        exact ⟨z, hz, rfl⟩
      have ey : y = .int (z.2 : Nat) := by
        rw [List.getElem?_map, List.getElem?_map, hz] at hy
        exact (Option.some.inj hy).symm
      subst ey
      have hzb := bnd z (List.mem_of_getElem? hz)
      have tk : pz.take (i + 1) = pz.take i ++ [z] := take_more hz
      have sT := sameN (o := .tup [V.int (z.1 : Nat), .int (z.2 : Nat)]) nT
      have hil := (List.getElem?_eq_some_iff.mp hz).1
      refine ⟨T, [.int (z.1 : Nat), .int (z.2 : Nat)], rfl, .inl (.inl upd_same), rfl, _, [.int (z.2 : Nat)], rfl, _, [], rfl, rfl, rfl, ?_⟩
      refine ⟨.ref a, rfl, _, rfl, _, rfl, _, rfl, _, rfl, slice_any (sameT (s4.trans sT) hT) (by omega) (by omega) fun H5 t5 s5 h5 => ⟨(show 2 ≤ sizeLine from by decide), fun t6 n6 => ?_⟩⟩
      have s6 := sameN (o := .tup [.str "block", .ref t5]) n6
      have s56 := sT.trans (s5.trans s6)
      have nb : NdV K (upd H5 t6 (.tup [.str "block", .ref t5])) (.ref t6) (.blk (pce ns z)) := .ofBlk (.inl (.inl upd_same)) (sameT s6 h5) (ndsV_drop z.1 ((hN.up (.of (K := K) (s4.trans s56))).take z.2))
      have gD6 := s56 _ _ gD
      have dD6 := dD.up (.of (K := K) s56)
      refine ⟨ws, gD6, ?_, hil, ws ++ [.ref t6], upd_same, ?_, sameW (s4.trans s56) nD⟩
      · rw [dD.len, List.length_map]
        exact line5 (small_take (by omega))
      · rw [tk, List.map_append]
        have t9 : Tups K (upd H5 t6 (.tup [.str "block", .ref t5])) (upd (upd H5 t6 (.tup [.str "block", .ref t5])) D (.lst (ws ++ [.ref t6]))) := (But.set (p := D)).tups gD6
        exact (dD6.up t9).app (.one (nb.up t9))
    · obtain ⟨hil, ws, gD, dD, s4⟩ := hp'
      have full : pz.take i = pz := List.take_of_length_le (by
        rw [vN_len, vN_len, List.length_map, List.length_map] at hi
        omega)
      rw [full] at dD
      exact ⟨D, ws, rfl, .inl ⟨.inl (.inl gD), fun t nt => q _ t ws (((s1.trans s13).trans s4).trans (sameN nt)) (.inl (.inl upd_same)) (dD.up (.of (sameN nt)))⟩⟩
end
theorem unb_tail : ∀ {ns : List Nd} {a : Nd}, Unb (a :: ns) → Unb ns
  | [], _, _ => trivial
  | b :: r, a, h => h.2
theorem unb_drop : ∀ (k : Nat) {ns : List Nd}, Unb ns → Unb (ns.drop k)
  | 0, _, h => h
  | k + 1, [], h => h
  | k + 1, a :: r, h => unb_drop k (unb_tail h)
theorem unb_take : ∀ (k : Nat) {ns : List Nd}, Unb ns → Unb (ns.take k)
  | 0, _, _ => trivial
  | k + 1, [], h => h
  | 1, a :: r, h => trivial
  | k + 2, [a], h => trivial
  | k + 2, a :: b :: r, h => ⟨h.1, unb_take (k + 1) (ns := b :: r) h.2⟩
theorem ok_piece {ns : List Nd} {l : Nat} {z : Nat × Nat} (ok : OkAll ns l) (un : Unb ns) (h1 : z.1 + 2 ≤ z.2) (h2 : z.2 ≤ z.1 + 3) (h3 : z.2 ≤ ns.length) : Ok (.blk (pce ns z)) (l + 1) := by
  have len : (pce ns z).length = z.2 - z.1 := by
    unfold pce
    rw [List.length_drop, List.length_take]
    omega
  unfold Ok
  refine ⟨by omega, by omega, by omega, OkAll.of fun n hn => ok.mem n ?_, ?_⟩
  · unfold pce at hn
    exact List.mem_of_mem_take (List.mem_of_mem_drop hn)
  · exact unb_drop z.1 (unb_take z.2 un)
theorem ok_pieces {ns : List Nd} {l : Nat} (ok : OkAll ns l) (un : Unb ns) (h : 2 ≤ ns.length) : OkAll ((pieces ns).map fun z => Nd.blk (pce ns z)) (l + 1) := OkAll.of fun n hn => by
  obtain ⟨z, hz, rfl⟩ := List.mem_map.mp hn
  have := (pieces_cont h).bnd.2 z hz
  exact ok_piece ok un this.1 this.2.1 this.2.2
/-! ### rows -/
section
theorem wideL : ∀ l : Nat, l ≤ 7 → wide l ≤ 1000000
  | 0, _ => by decide
  | 1, _ => by decide
  | 2, _ => by decide
  | 3, _ => by decide
  | 4, _ => by decide
  | 5, _ => by decide
  | 6, _ => by decide
  | 7, _ => by decide
  | l + 8, h => by omega
def bks (ns : List Nd) : List Nd := (pieces ns).map fun z => Nd.blk (pce ns z)
noncomputable def Nx (ns : List Nd) : List Nd := mkRuns (bks ns)
noncomputable def nx : Nat → List Nd → List Nd
  | 0, r => r
  | i + 1, r => Nx (nx i r)
theorem base_mkRun {p : Nd × Nat} (h : p.1.isRun = false) : (mkRun p).base = p.1 := by
  unfold mkRun
  split
  · exact base_of_no h
  · rfl
theorem unb_of : ∀ {ns : List Nd}, (∀ (i : Nat) (x y : Nd), ns[i]? = some x → ns[i + 1]? = some y → x.base ≠ y.base) → Unb ns
  | [], _ => trivial
  | [_], _ => trivial
  | a :: b :: r, h => ⟨h 0 a b rfl rfl, unb_of (ns := b :: r) fun i x y h1 h2 => h (i + 1) x y h1 h2⟩
theorem unb_runs {gs : List (Nd × Nat)} (nr : ∀ p ∈ gs, p.1.isRun = false) (u : ∀ (i : Nat) p q, gs[i]? = some p → gs[i + 1]? = some q → p.1 ≠ q.1) : Unb (gs.map mkRun) := unb_of fun i x y hx hy => by
  rw [List.getElem?_map] at hx hy
  obtain ⟨p, hp, rfl⟩ := Option.map_eq_some_iff.mp hx
  obtain ⟨q, hq, rfl⟩ := Option.map_eq_some_iff.mp hy
  rw [base_mkRun (nr p (List.mem_of_getElem? hp)), base_mkRun (nr q (List.mem_of_getElem? hq))]
  exact u i p q hp hq
theorem grp_ne {ns : List Nd} (h : ns ≠ []) : grp ns ≠ [] := by
  rcases List.eq_nil_or_concat ns with rfl | ⟨r, n, rfl⟩
  · exact absurd rfl h
  · rw [List.concat_eq_append, grp_app]
    obtain ⟨i, c, e⟩ := stepG_last (grp r) n
    rw [e]
    simp
theorem Nx_ok {ns : List Nd} {l : Nat} (ok : OkAll ns l) (un : Unb ns) (h : 2 ≤ ns.length) (hl : ns.length ≤ 1000) : OkAll (Nx ns) (l + 1) ∧ Unb (Nx ns) ∧ 1 ≤ (Nx ns).length ∧ 2 * (Nx ns).length ≤ ns.length := by
  have okb : OkAll (bks ns) (l + 1) := ok_pieces ok un h
  have nr : ∀ n ∈ bks ns, n.isRun = false := fun n hn => by
    obtain ⟨z, _, rfl⟩ := List.mem_map.mp hn
    rfl
  have lc := (pieces_cont h).len
  have lb : (bks ns).length = (pieces ns).length := List.length_map _
  have lg := grp_len (bks ns)
  have nb : bks ns ≠ [] := fun z => by
    have e : (pieces ns).length = 0 := by rw [← lb, z]; rfl
    have c := pieces_cont h
    rw [List.eq_nil_of_length_eq_zero e] at c
    have c : 0 = ns.length := c
    omega
  have ng := grp_ne nb
  refine ⟨mkRuns_ok okb nr (Nat.le_trans (show (bks ns).length ≤ 1000 by omega) (by decide)), ?_, ?_, ?_⟩
  · exact unb_runs (fun p hp => nr _ (grp_foot _ p hp).1) (grp_unl _ _ rfl)
  · unfold Nx mkRuns
    rw [List.length_map]
    exact List.length_pos_iff.mpr ng
  · unfold Nx mkRuns
    rw [List.length_map]
    omega
/-- a row of level j -/
def Lv (r0 : List Nd) (j : Nat) : Prop := OkAll (nx j r0) j ∧ Unb (nx j r0) ∧ 1 ≤ (nx j r0).length ∧ (nx j r0).length * 2 ^ j ≤ 300
theorem Lv.small {r0 : List Nd} {j : Nat} (h : Lv r0 j) : j ≤ 8 ∧ (nx j r0).length ≤ 300 := by
  obtain ⟨_, _, h3, h4⟩ := h
  have p : 1 ≤ 2 ^ j := Nat.one_le_two_pow
  constructor
  · rcases Nat.lt_or_ge 8 j with z | z
    · have e : 2 ^ 9 ≤ 2 ^ j := Nat.pow_le_pow_right (by decide) z
      have : 1 * 2 ^ j ≤ (nx j r0).length * 2 ^ j := Nat.mul_le_mul_right _ h3
      omega
    · exact z
  · have : (nx j r0).length * 1 ≤ (nx j r0).length * 2 ^ j := Nat.mul_le_mul_left _ p
    omega
theorem Lv.two {r0 : List Nd} {j : Nat} (h : Lv r0 j) (k : 2 ≤ (nx j r0).length) : j ≤ 7 := by
  obtain ⟨_, _, _, h4⟩ := h
  rcases Nat.lt_or_ge 7 j with z | z
  · have e : 2 ^ 8 ≤ 2 ^ j := Nat.pow_le_pow_right (by decide) z
    have : 2 * 2 ^ j ≤ (nx j r0).length * 2 ^ j := Nat.mul_le_mul_right _ k
    omega
  · exact z
theorem Lv.next {r0 : List Nd} {j : Nat} (h : Lv r0 j) (k : 2 ≤ (nx j r0).length) : Lv r0 (j + 1) ∧ 2 * (nx (j + 1) r0).length ≤ (nx j r0).length := by
  have s := h.small
  obtain ⟨h1, h2, h3, h4⟩ := h
  obtain ⟨k1, k2, k3, k4⟩ := Nx_ok h1 h2 k (by omega)
  refine ⟨⟨k1, k2, k3, ?_⟩, k4⟩
  show (Nx (nx j r0)).length * 2 ^ (j + 1) ≤ 300
  rw [Nat.pow_succ, Nat.mul_comm (2 ^ j) 2, ← Nat.mul_assoc]
  refine Nat.le_trans (Nat.mul_le_mul_right _ ?_) h4
  omega
/-- how many rows -/
def Top (r0 : List Nd) (t : Nat) : Prop := (r0 = [] ∧ t = 0) ∨ (r0 ≠ [] ∧ ∃ s, t = s + 1 ∧ (nx s r0).length ≤ 1 ∧ ∀ j, j < s → 1 < (nx j r0).length)
theorem Top.one {r0 : List Nd} {t t' : Nat} (h : Top r0 t) (k : Top r0 t') : t = t' := by
  rcases h with ⟨h1, h2⟩ | ⟨h1, s, h2, h3, h4⟩
  · rcases k with ⟨_, k2⟩ | ⟨k1, _⟩
    · omega
    · exact absurd h1 k1
  · rcases k with ⟨k1, _⟩ | ⟨_, s', k2, k3, k4⟩
    · exact absurd k1 h1
    · rcases Nat.lt_trichotomy s s' with z | z | z
      · have := k4 s z
        omega
      · omega
      · have := h4 s' z
        omega
theorem giv_row0 {gs : List (Nd × Nat)} (g : Giv gs) (n : gs ≠ []) (l : gs.length ≤ 300) : Lv (gs.map mkRun) 0 := by
  have nr : ∀ p ∈ gs, p.1.isRun = false := fun p hp => by
    obtain ⟨⟨k, e, _⟩, _⟩ := g.1 p hp
    rw [e]
    rfl
  refine ⟨OkAll.of fun x hx => ?_, unb_runs nr g.2, ?_, ?_⟩
  · obtain ⟨p, hp, rfl⟩ := List.mem_map.mp hx
    obtain ⟨⟨k, e, hk⟩, c1, c2⟩ := g.1 p hp
    have o : Ok p.1 0 := by
      rw [e]
      unfold Ok
      exact ⟨rfl, hk⟩
    unfold mkRun
    split
    · exact o
    · unfold Ok
      exact ⟨by omega, Nat.le_trans c2 (by decide), nr p hp, o⟩
  · show 1 ≤ (gs.map mkRun).length
    rw [List.length_map]
    exact List.length_pos_iff.mpr n
  · show (gs.map mkRun).length * 2 ^ 0 ≤ 300
    rw [List.length_map]
    omega
/-- the rows as data -/
noncomputable def rdat (r0 : List Nd) (t : Nat) : List PyData := (List.range t).map fun j => .tuple (datAll (nx j r0))
theorem rdat_more (r0 : List Nd) (t : Nat) : rdat r0 (t + 1) = rdat r0 t ++ [.tuple (datAll (nx t r0))] := by
  unfold rdat
  rw [List.range_succ, List.map_append]
  rfl
end
end C62.T

set_option Elab.async false
set_option linter.all false
set_option maxRecDepth 100000
namespace C62.T
open PySem PySem.Spec PyProof.Rows L2 Loc RZ
/-! ### made_runs and the law's own joining -/
section
variable {P : Program} {w : World} {K : PySem.W.Frag} {mg : Str → Option Value} {base : Heap}
theorem scRunOf : FnScope ["node", "count"] ["node", "count"] (defScope sRunOf) := ⟨rfl, rfl, rfl, by decide +kernel, rfl, by decide +kernel, by decide +kernel⟩
theorem scMade : FnScope ["nodes", "made", "begin", "end"] ["nodes"] (defScope sMade) := ⟨rfl, rfl, rfl, by decide +kernel, rfl, by decide +kernel, by decide +kernel⟩
def spRunOf (K : PySem.W.Frag) : Sp := fun vs H Q _ => ∃ (v : V) (n : Nd) (z : Int) (c : Nat), vs = [v, .int z] ∧ z = c ∧ NdV K H v n ∧ ∀ H' u, Same H H' → NdV K H' u (mkRun (n, c)) → Q u H'
theorem ok_runof {f : Addr} {fd : FuncData} {k : Nat} (F : Fun K "run_of" "run_of" sRunOf f fd) : FnOk P w K mg base CX0 (k + 1) f fd ["node", "count"] (spRunOf K) := by
  refine F.ok scRunOf (fun vs H Q E h => ?_) (fun cdv A outer s H vs Q E hr h => ?_)
  · obtain ⟨v, n, z, c, rfl, _⟩ := h
    rfl
  · obtain ⟨v, n, z, c, rfl, rfl, hn, q⟩ := h
    refine ⟨_, pss_cons (ps_if (pt_cmpR op_eq (pv 1) pe_int (nomark _)) (pss_one (ps_ret (pv 0))) pss_nil) (pss_one (ps_ret (pe_tup (pa_cons pe_str (pa_cons (pv 0) (pa_cons (pv 1) pa_nil)))))), ?_⟩
    refine ⟨_, rfl, rfl, _, rfl, ite2 (fun e => ?_) (fun e => ?_)⟩
    · have e0 : (c : Int) = 1 := V.int.inj (of_decide_eq_true e)
      have e1 : c = 1 := by omega
      refine ⟨v, rfl, q H v (Same.refl H) ?_⟩
      unfold mkRun
      rw [if_pos e1]
      exact hn
    · have e1 : c ≠ 1 := fun z => e (by rw [z]; rfl)
      refine ⟨v, rfl, _, rfl, (show 3 ≤ sizeLine from by decide), fun p hp => q _ _ (sameN hp) ?_⟩
      unfold mkRun
      rw [if_neg e1]
      exact .ofRun (.inl (.inl upd_same)) (hn.up (.of (sameN hp)))
def spMade (K : PySem.W.Frag) : Sp := fun vs H Q _ => ∃ (a : Addr) (us : List V) (ns : List Nd) (l : Nat), vs = [.ref a] ∧ SqT K H a us ∧ NdsV K H us ns ∧ OkAll ns l ∧ l ≤ 20 ∧ ns.length ≤ 100000 ∧
  ∀ H' p ws, Same H H' → H' p = some (.tup ws) → NdsV K H' ws (mkRuns ns) → Q (.ref p) H'
theorem grp_take {ns : List Nd} {b e : Nat} {x : Nd} (hbe : b < e) (he : e ≤ ns.length) (h : ∀ j, b ≤ j → j < e → ns[j]? = some x) (hl : (ns.take b).getLast? ≠ some x) : grp (ns.take e) = grp (ns.take b) ++ [(x, e - b)] := by
  have : ns.take e = ns.take b ++ List.replicate ((e - b - 1) + 1) x := by
    refine List.ext_getElem? fun j => ?_
    rw [List.getElem?_append, List.getElem?_take, List.getElem?_take, List.length_take, List.getElem?_replicate]
    rcases Nat.lt_or_ge j b with c | c
    · rw [if_pos (by omega), if_pos (by omega), if_pos c]
    · rw [if_neg (show ¬ j < min b ns.length by omega)]
      rcases Nat.lt_or_ge j e with c2 | c2
      · rw [if_pos c2, if_pos (by omega), h j c c2]
      · rw [if_neg (by omega), if_neg (by omega)]
  rw [this, grp_rep _ _ hl]
  congr 3
  omega
theorem ok_made {f g : Addr} {fd gd : FuncData} {k : Nat} (F : Fun K "made_runs" "made_runs" sMade f fd) (R : Fun K "run_of" "run_of" sRunOf g gd) (gR : mg "run_of" = some (.ref g)) (bR : Binds K gd ["node", "count"] [])
    (ml : mg "len" = none) (mt : mg "tuple" = none) : FnOk P w K mg base CX0 (k + 2) f fd ["nodes"] (spMade K) := by
  have GR : FnOk P w K mg base CX0 (k + 1) g gd ["node", "count"] (spRunOf K) := ok_runof R
  refine F.ok scMade (fun vs H Q E h => ?_) (fun cdv A outer s H vs Q E hr h => ?_)
  · obtain ⟨a, us, ns, l, rfl, _⟩ := h
    rfl
  · obtain ⟨a, us, ns, l, rfl, hS, hn, ok, l20, hlen, q⟩ := h
    refine ⟨_, pss_cons (ps_set (i := 1) scMade.nd rfl (.inl rfl) (pe_lst pa_nil))
      (pss_cons (ps_set (i := 2) scMade.nd rfl (.inl rfl) pe_int)
      (pss_cons (ps_while PassesOwn.never (pt_cmpR op_lt (pv 2) (pe_callB call_len_seq (by rfl) ml PySem.boot_len (pa_cons (pv 0) pa_nil)) (nomark _))
        (pss_cons (ps_set (i := 3) scMade.nd rfl (.inl rfl) (pe_op op_add (pv 2) pe_int))
        (pss_cons (ps_while PassesOwn.never (PW.pt (pw_and (pt_cmpR op_lt (pv 3) (pe_callB call_len_seq (by rfl) ml PySem.boot_len (pa_cons (pv 0) pa_nil)) (nomark _))
            (pw_and1 (pt_cmpR (op_eqD hr.units) (pe_ix ix_tup (pv 0) (pv 3) (fun _ _ => rfl)) (pe_ix ix_tup (pv 0) (pv 2) (fun _ _ => rfl)) (nomark _)))))
          (pss_one (ps_aug (i := 3) scMade.nd rfl (.inl rfl) pe_int ip_add)))
        (pss_cons (ps_expr (pe_bm PySem.F.plainAttrs_list PySem.F.slot_list_append PySem.F.type_list_append mt_append (pv 1)
            (pa_cons (pe_call GR hr (by rfl) gR R.kp bR .nil pass0 (pa_cons (pe_ix ix_tup (pv 0) (pv 2) (fun _ _ => rfl)) (pa_cons (pe_op op_sub (pv 3) (pv 2)) pa_nil))) pa_nil)))
        (pss_one (ps_set (i := 2) scMade.nd rfl (.inl rfl) (pv 3)))))))
      (pss_one (ps_ret (pe_callTy call_tuple_of (by rfl) mt PyProof.Rows.boot_tuple (pa_cons (pv 1) pa_nil)))))), ?_⟩
    refine ⟨(show 0 ≤ sizeLine from by decide), fun M hM => ?_⟩
    refine ⟨fun m σ H' => ∃ (b : Nat) (ws : List V) (y3 : Option V), m = ns.length - b ∧ b ≤ ns.length ∧ σ = [some (.ref a), some (.ref M), some (.int b), y3] ∧ H' M = some (.lst ws) ∧ NdsV K H' ws (mkRuns (ns.take b)) ∧ Same H H' ∧
        (∀ x, ns[b]? = some x → (ns.take b).getLast? ≠ some x), ⟨ns.length, 0, [], none, rfl, Nat.zero_le _, rfl, upd_same, ?_, sameN hM, fun x _ => by simp⟩, ?_⟩
    · rw [List.take_zero]
      exact .nil
    rintro m σ H1 ⟨b, ws, y3, rfl, hb, rfl, e1, e2, s1, bd⟩
    have hS1 := sameT s1 hS
    have hn1 : NdsV K H1 us ns := hn.up (.of s1)
    have hlu := hn.len
    refine ⟨_, rfl, .ref a, rfl, a, us, rfl, .inr hS1, _, _, rfl, rfl, _, rfl, ite2 (fun e => ?_) (fun e => ?_)⟩
    · have hlt : b < ns.length := by
        have : (b : Int) < ((us.length : Nat) : Int) := of_decide_eq_true e
        omega
      obtain ⟨x, hx⟩ := get_of hlt
      obtain ⟨vx, hvx, kx⟩ := hn1.at hx
      have okx := ok.mem x (List.mem_of_getElem? hx)
      refine ⟨fun σ' H' => ∃ (b' : Nat) (ws : List V) (y3 : Option V), b < b' ∧ b' ≤ ns.length ∧ σ' = [some (.ref a), some (.ref M), some (.int b'), y3] ∧ H' M = some (.lst ws) ∧ NdsV K H' ws (mkRuns (ns.take b')) ∧ Same H H' ∧ (∀ x, ns[b']? = some x → (ns.take b').getLast? ≠ some x),
        fun σ' H' hN => ?_, ?_⟩
      · obtain ⟨b', w', y, k1, k2, k3⟩ := hN
        exact ⟨ns.length - b', by omega, b', w', y, rfl, k2, k3⟩
      refine ⟨_, rfl, _, 1, rfl, rfl, ?_⟩
      refine ⟨fun m σ H' => ∃ e : Nat, m = ns.length - e ∧ b < e ∧ e ≤ ns.length ∧ σ = [some (.ref a), some (.ref M), some (.int b), some (.int e)] ∧ H' = H1 ∧ ∀ j, b ≤ j → j < e → ns[j]? = some x,
        ⟨_, b + 1, rfl, by omega, hlt, ?_, rfl, fun j j1 j2 => by rw [show j = b by omega]; exact hx⟩, ?_⟩
      · show _ = [some (V.ref a), some (V.ref M), some (V.int b), some (V.int ((b + 1 : Nat) : Int))]
        rw [Int.natCast_add]
        rfl
      rintro m σ Hc ⟨e', rfl, be, he, rfl, rfl, hj⟩
      refine ⟨_, rfl, .ref a, rfl, a, us, rfl, .inr hS1, _, _, rfl, rfl, _, rfl, ?_⟩
      by_cases c : e' < ns.length
      · have d1 : decide ((e' : Int) < ((us.length : Nat) : Int)) = true := decide_eq_true (by omega)
        rw [d1]
        obtain ⟨y, hy⟩ := get_of c
        obtain ⟨vy, hvy, ky⟩ := hn1.at hy
        have oky := ok.mem y (List.mem_of_getElem? hy)
        refine ⟨.ref a, rfl, _, rfl, a, us, _, vy, rfl, rfl, hS1, atI_nat hvy, .ref a, rfl, _, rfl, a, us, _, vx, rfl, rfl, hS1, atI_nat hvx, _, _, ky, kx, shaped_dat oky l20, shaped_dat okx l20, _, rfl, ?_⟩
        by_cases eq : y = x
        · rw [eqv_yes eq]
          refine ⟨fun σ' H' => σ' = [some (.ref a), some (.ref M), some (.int b), some (.int ((e' + 1 : Nat) : Int))] ∧ H' = Hc, fun σ' H' hN => ⟨ns.length - (e' + 1), by omega, e' + 1, rfl, by omega, c, hN.1, hN.2, fun j j1 j2 => ?_⟩, ?_⟩
          · rcases Nat.lt_or_ge j e' with z | z
            · exact hj j j1 z
            · rw [show j = e' by omega, hy, eq]
          · refine ⟨_, rfl, e', 1, rfl, rfl, ?_, rfl⟩
            rw [Int.natCast_add]
            rfl
        · rw [eqv_no eq]
          have gt := grp_take be he hj (bd x hx)
          refine ⟨.ref M, rfl, .inl ⟨rfl, _, .inl (.inl e1)⟩, .ref a, rfl, _, rfl, a, us, _, vx, rfl, rfl, hS1, atI_nat hvx, _, rfl, _, rfl, _, _, rfl, rfl, vx, x, _, e' - b, rfl, by omega, kx, fun H2 u s2 hu => ⟨M, _, _, rfl, rfl, s2 _ _ e1, ?_, _, rfl, e', ws ++ [u], some (.int e'), be, he, rfl, upd_same, ?_, sameW (s1.trans s2) hM, fun z hz => ?_⟩⟩
          · rw [e2.len]
            refine line5 ?_
            have g1 := grp_len (ns.take b)
            show ((grp (ns.take b)).map mkRun).length ≤ 100000
            rw [List.length_map]
            rw [List.length_take] at g1
            omega
          · have : mkRuns (ns.take e') = mkRuns (ns.take b) ++ [mkRun (x, e' - b)] := by
              unfold mkRuns
              rw [gt, List.map_append]
              rfl
            rw [this]
            have t2 : Tups K H2 (upd H2 M (.lst (ws ++ [u]))) := (But.set (p := M)).tups (s2 _ _ e1)
            exact ((e2.up (.of s2)).up t2).app (.one (hu.up t2))
          · rw [hy] at hz
            cases hz
            have : (ns.take e').getLast? = some x := by
              rw [List.getLast?_eq_getElem?, List.length_take, List.getElem?_take, if_pos (by omega), show min e' ns.length - 1 = e' - 1 by omega]
              exact hj (e' - 1) (by omega) (by omega)
            rw [this]
            intro z
            exact eq (Option.some.inj z).symm
      · have d1 : decide ((e' : Int) < ((us.length : Nat) : Int)) = false := decide_eq_false (by omega)
        rw [d1]
        have gt := grp_take be he hj (bd x hx)
        refine ⟨.ref M, rfl, .inl ⟨rfl, _, .inl (.inl e1)⟩, .ref a, rfl, _, rfl, a, us, _, vx, rfl, rfl, hS1, atI_nat hvx, _, rfl, _, rfl, _, _, rfl, rfl, vx, x, _, e' - b, rfl, by omega, kx, fun H2 u s2 hu => ⟨M, _, _, rfl, rfl, s2 _ _ e1, ?_, _, rfl, e', ws ++ [u], some (.int e'), be, he, rfl, upd_same, ?_, sameW (s1.trans s2) hM, fun z hz => ?_⟩⟩
        · rw [e2.len]
          refine line5 ?_
          have g1 := grp_len (ns.take b)
          show ((grp (ns.take b)).map mkRun).length ≤ 100000
          rw [List.length_map]
          rw [List.length_take] at g1
          omega
        · have : mkRuns (ns.take e') = mkRuns (ns.take b) ++ [mkRun (x, e' - b)] := by
            unfold mkRuns
            rw [gt, List.map_append]
            rfl
          rw [this]
          have t2 : Tups K H2 (upd H2 M (.lst (ws ++ [u]))) := (But.set (p := M)).tups (s2 _ _ e1)
          exact ((e2.up (.of s2)).up t2).app (.one (hu.up t2))
        · rw [List.getElem?_eq_none_iff.mpr (by omega)] at hz
          cases hz
    · have hb' : b = ns.length := by
        have : ¬ (b : Int) < ((us.length : Nat) : Int) := fun z => e (decide_eq_true z)
        omega
      rw [hb', List.take_length] at e2
      refine ⟨.ref M, rfl, M, _, rfl, .inl ⟨.inl (.inl e1), fun t ht => q _ t _ (s1.trans (sameN ht)) upd_same (e2.up (.of (sameN ht)))⟩⟩
end
section
variable {P : Program} {w : World} {K : PySem.W.Frag} {mg : Str → Option Value} {base : Heap}
/-- tuples that hold the rows -/
def RowsV (K : PySem.W.Frag) (H : Hp) (r0 : List Nd) (ws : List V) (t : Nat) : Prop := ws.length = t ∧ ∀ (i : Nat) (v : V), ws[i]? = some v → ∃ (ra : Addr) (us : List V), v = .ref ra ∧ SqT K H ra us ∧ NdsV K H us (nx i r0)
theorem RowsV.nil {H : Hp} {r0 : List Nd} : RowsV K H r0 [] 0 := ⟨rfl, fun i v h => by simp at h⟩
theorem RowsV.up {H H' : Hp} {r0 : List Nd} {ws : List V} {t : Nat} (h : RowsV K H r0 ws t) (e : Tups K H H') : RowsV K H' r0 ws t := ⟨h.1, fun i v hv => by
  obtain ⟨ra, us, h1, h2, h3⟩ := h.2 i v hv
  exact ⟨ra, us, h1, e _ _ h2, h3.up e⟩⟩
theorem RowsV.app {H : Hp} {r0 : List Nd} {ws : List V} {t : Nat} {ra : Addr} {us : List V} (h : RowsV K H r0 ws t) (ht : SqT K H ra us) (hn : NdsV K H us (nx t r0)) : RowsV K H r0 (ws ++ [.ref ra]) (t + 1) := by
  refine ⟨by rw [List.length_append, h.1]; rfl, fun i v hv => ?_⟩
  by_cases c : i < ws.length
  · rw [List.getElem?_append_left c] at hv
    exact h.2 i v hv
  · rw [List.getElem?_append_right (by omega)] at hv
    have e0 : i - ws.length = 0 := by
      rcases Nat.eq_zero_or_pos (i - ws.length) with z' | z'
      · exact z'
      · rw [List.getElem?_eq_none_iff.mpr (by simp; omega)] at hv
        cases hv
    rw [e0] at hv
    have hv := Option.some.inj hv
    have e1 : i = t := by rw [← h.1]; omega
    rw [e1]
    exact ⟨ra, us, hv.symm, ht, hn⟩
theorem scRows : FnScope ["runs", "row", "rows", "element", "count"] ["runs"] (defScope sRows) := ⟨rfl, rfl, rfl, by decide +kernel, rfl, by decide +kernel, by decide +kernel⟩
def spRows (K : PySem.W.Frag) : Sp := fun vs H Q _ => ∃ (a : Addr) (ws : List V) (gs : List (Nd × Nat)), vs = [.ref a] ∧ SqT K H a ws ∧ PrsV K H ws gs ∧ Giv gs ∧ gs.length ≤ 300 ∧
  ∀ H' p us t, Same H H' → SqT K H' p us → RowsV K H' (gs.map mkRun) us t → Top (gs.map mkRun) t → Q (.ref p) H'
theorem row_of {H : Hp} {ra : Addr} {us : List V} {r0 : List Nd} {j : Nat} (lv : Lv r0 j) (hT : SqT K H ra us) (hn : NdsV K H us (nx j r0)) (h2 : 2 ≤ (nx j r0).length) : RowV K 16 H ra (nx j r0) := by
  have s := lv.small
  have s7 := lv.two h2
  refine ⟨us, j, hT, hn, lv.1, lv.2.1, wideL j (by omega), fun n hn => ?_, h2, by omega⟩
  have := ht_le n j (lv.1.mem n hn)
  split at this <;> omega
theorem ok_rows {f g1 g2 g3 : Addr} {fd e1 e2 e3 : FuncData} (F : Fun K "rows_of" "rows_of" sRows f fd) (B : FnOk P w K mg base CX0 23 g1 e1 ["row"] (spBlocks K 16)) (B' : Fun K "blocks" "blocks" sBlocks g1 e1) (gB : mg "blocks" = some (.ref g1)) (bB : Binds K e1 ["row"] [])
    (M : FnOk P w K mg base CX0 2 g2 e2 ["nodes"] (spMade K)) (M' : Fun K "made_runs" "made_runs" sMade g2 e2) (gM : mg "made_runs" = some (.ref g2)) (bM : Binds K e2 ["nodes"] [])
    (R : Fun K "run_of" "run_of" sRunOf g3 e3) (gR : mg "run_of" = some (.ref g3)) (bR : Binds K e3 ["node", "count"] []) (ml : mg "len" = none) (mt : mg "tuple" = none) : FnOk P w K mg base CX0 24 f fd ["runs"] (spRows K) := by
  have GR : FnOk P w K mg base CX0 1 g3 e3 ["node", "count"] (spRunOf K) := ok_runof R
  refine F.ok scRows (fun vs H Q E h => ?_) (fun cdv A outer s H vs Q E hr h => ?_)
  · obtain ⟨a, ws, gs, rfl, _⟩ := h
    rfl
  · obtain ⟨a, ws, gs, rfl, hT, hP, giv, l100, q⟩ := h
    have r1 := hr.mono (j := 1) (by omega)
    have r2 := hr.mono (j := 2) (by omega)
    refine ⟨_, pss_cons (ps_if (pt_cmpR op_eq (pe_callB call_len_seq (by rfl) ml PySem.boot_len (pa_cons (pv 0) pa_nil)) pe_int (nomark _)) (pss_one (ps_ret (pe_tup pa_nil))) pss_nil)
      (pss_cons (ps_set (i := 1) scRows.nd rfl (.inl rfl) (pe_callTy call_tuple_of (by rfl) mt PyProof.Rows.boot_tuple (pa_cons
          (pe_lc (own := [("element", 3), ("count", 4)]) (g := gTup K 2 (gCons (gName 3) (gCons (gName 4) gNil))) (tt := tYes) rfl scRows.nd (pi_tup (pv 0)) (blkOk_by (N := ["runs", "row", "rows", "element", "count"]) (sc := defScope sRows) (by decide +kernel))
            (fun _ _ _ _ _ => pg_tup rfl (pgs_cons (pg_name (i := 3) scRows.nd rfl (Or.inl rfl) (hf := Or.inr rfl)) (pgs_cons (pg_name (i := 4) scRows.nd rfl (Or.inl rfl) (hf := Or.inr rfl)) pgs_nil))) (fun _ _ _ _ _ => pts_nil)
            (fun _ _ _ _ _ => pe_call GR r1 (by rfl) gR R.kp bR .nil pass0 (pa_cons (pv 3) (pa_cons (pv 4) pa_nil)))) pa_nil)))
      (pss_cons (ps_set (i := 2) scRows.nd rfl (.inl rfl) (pe_lst (pa_cons (pv 1) pa_nil)))
      (pss_cons (ps_while PassesOwn.never (pt_cmpR op_gt (pe_callB call_len_seq (by rfl) ml PySem.boot_len (pa_cons (pv 1) pa_nil)) pe_int (nomark _))
        (pss_cons (ps_set (i := 1) scRows.nd rfl (.inl rfl) (pe_call M r2 (by rfl) gM M'.kp bM .nil pass0 (pa_cons (pe_call B hr (by rfl) gB B'.kp bB .nil pass0 (pa_cons (pv 1) pa_nil)) pa_nil)))
        (pss_one (ps_expr (pe_bm PySem.F.plainAttrs_list PySem.F.slot_list_append PySem.F.type_list_append mt_append (pv 2) (pa_cons (pv 1) pa_nil))))))
      (pss_one (ps_ret (pe_callTy call_tuple_of (by rfl) mt PyProof.Rows.boot_tuple (pa_cons (pv 2) pa_nil))))))), ?_⟩
    have hlw := PrsV.len hP
    refine ⟨.ref a, rfl, a, ws, rfl, .inr hT, rfl, _, rfl, ite2 (fun e => ?_) (fun e => ?_)⟩
    · have e0 : ((ws.length : Nat) : Int) = 0 := V.int.inj (of_decide_eq_true e)
      have e1 : gs = [] := List.eq_nil_of_length_eq_zero (by omega)
      subst e1
      exact ⟨(show 0 ≤ sizeLine from by decide), fun t nt => q _ t [] 0 (sameN nt) (.inl (.inl upd_same)) .nil (.inl ⟨rfl, rfl⟩)⟩
    have gne : gs ≠ [] := fun z => e (by
      have : ws.length = 0 := by rw [hlw, z]; rfl
      rw [this]
      rfl)
    refine ⟨.ref a, rfl, a, rfl, ⟨ws, hT⟩, fun D nD => ?_⟩
    refine lc_tup (xs := ws) (fun i H' => ∃ vs', H' D = some (.lst vs') ∧ NdsV K H' vs' ((gs.take i).map mkRun) ∧ Same H H') ⟨[], upd_same, .nil, sameN nD⟩ (fun i H' _ hp => ?_) (fun i u H' hu hp => ?_) (fun H1 hp => ?_)
    · obtain ⟨_, _, _, s1⟩ := hp
      exact sameT s1 hT
    · obtain ⟨vs', gD, dD, s1⟩ := hp
      obtain ⟨pr, ra, v, hpi, rfl, t1, t2⟩ := (PrsV.up (.of s1) hP).get hu
      have hil := (List.getElem?_eq_some_iff.mp hpi).1
      refine ⟨ra, _, rfl, t1, rfl, v, _, rfl, _, [], rfl, rfl, rfl, ?_⟩
      refine ⟨v, rfl, _, rfl, v, pr.1, _, pr.2, rfl, rfl, t2, fun H3 u3 s3 k3 => ⟨vs', s3 _ _ gD, ?_, vs' ++ [u3], upd_same, ?_, sameW (s1.trans s3) nD⟩⟩
      · rw [dD.len, List.length_map]
        exact line5 (small_take (by omega))
      · rw [take_more hpi, List.map_append]
        have t9 : Tups K H3 (upd H3 D (.lst (vs' ++ [u3]))) := (But.set (p := D)).tups (s3 _ _ gD)
        exact ((dD.up (.of s3)).up t9).app (.one (k3.up t9))
    obtain ⟨vs', gD, dD, s1⟩ := hp
    have full : gs.take ws.length = gs := List.take_of_length_le (by rw [hlw]; exact Nat.le_refl _)
    rw [full] at dD
    have lv0 := giv_row0 giv gne l100
    have rne : gs.map mkRun ≠ [] := fun z => gne (by simpa using z)
    generalize gs.map mkRun = r0 at q dD lv0 rne
    refine ⟨D, vs', rfl, .inl ⟨.inl (.inl gD), fun t nt => ⟨_, rfl, (show 1 ≤ sizeLine from by decide), fun L nL => ?_⟩⟩⟩
    have sL := sameN (o := .lst [V.ref t]) nL
    have st := (sameN (o := .tup vs') nt).trans sL
    refine ⟨fun m' σ H' => ∃ j ra us rv y3 y4, m' = (nx j r0).length ∧ (∀ i, i < j → 1 < (nx i r0).length) ∧ Lv r0 j ∧ σ = [some (.ref a), some (.ref ra), some (.ref L), y3, y4] ∧ SqT K H' ra us ∧ NdsV K H' us (nx j r0) ∧ H' L = some (.lst rv) ∧ RowsV K H' r0 rv (j + 1) ∧ Same H H',
      ⟨_, 0, t, vs', [.ref t], _, _, rfl, (fun i hi => absurd hi (Nat.not_lt_zero _)), lv0, rfl, .inl (.inl (sL _ _ upd_same)), dD.up (.of st), upd_same, ?_, s1.trans st⟩, ?_⟩
    · exact RowsV.nil.app (.inl (.inl (sL _ _ upd_same))) (dD.up (.of st))
    rintro m' σ H2 ⟨j, ra, us, rv, y3, y4, rfl, hj, lv, rfl, k1, k2, k3, k4, k5⟩
    have lus := k2.len
    refine ⟨.ref ra, rfl, ra, us, rfl, .inr k1, _, 1, rfl, rfl, _, rfl, ite2 (fun e => ?_) (fun e => ?_)⟩
    · have h2 : 2 ≤ (nx j r0).length := by
        have := of_decide_eq_true e
        omega
      have nxt := lv.next h2
      have sm := lv.small
      refine ⟨fun σ' H' => ∃ ra us rv y3 y4, Lv r0 (j + 1) ∧ σ' = [some (.ref a), some (.ref ra), some (.ref L), y3, y4] ∧ SqT K H' ra us ∧ NdsV K H' us (nx (j + 1) r0) ∧ H' L = some (.lst rv) ∧ RowsV K H' r0 rv (j + 1 + 1) ∧ Same H H', fun σ' H' hN => ?_, ?_⟩
      · obtain ⟨ra', us', rv', z3, z4, i1, i2⟩ := hN
        refine ⟨(nx (j + 1) r0).length, by omega, j + 1, ra', us', rv', z3, z4, rfl, fun i hi => ?_, i1, i2⟩
        rcases Nat.lt_or_ge i j with z | z
        · exact hj i z
        · have : i = j := by omega
          rw [this]
          exact h2
      · refine ⟨.ref ra, rfl, ra, nx j r0, rfl, row_of lv k1 k2 h2, fun H3 pb bs s3 hb kb => ?_⟩
        have okb := ok_pieces lv.1 lv.2.1 h2
        refine ⟨pb, bs, _, j + 1, rfl, hb, kb, okb, by omega, ?_, fun H4 pr rs s4 hr4 kr => ?_⟩
        · rw [List.length_map]
          have := pieces_fst_len h2
          omega
        have s34 := s3.trans s4
        have gL4 := s34 _ _ k3
        refine ⟨.ref L, rfl, .inl ⟨rfl, _, .inl (.inl gL4)⟩, .ref pr, rfl, L, _, _, rfl, rfl, gL4, line5 (by rw [k4.1]; omega), pr, rs, rv ++ [.ref pr], _, _, nxt.1, rfl, ?_, ?_, upd_same, ?_, sameW (k5.trans s34) (freeS (s1.trans (sameN nt)) nL)⟩
        all_goals have t9 : Tups K H4 (upd H4 L (.lst (rv ++ [.ref pr]))) := (But.set (p := L)).tups gL4
        · exact t9 _ _ (.inl (.inl hr4))
        · exact NdsV.up t9 kr
        · exact ((k4.up (.of s34)).up t9).app (t9 _ _ (.inl (.inl hr4))) (NdsV.up t9 kr)
    · have h1 : (nx j r0).length ≤ 1 := by
        have : ¬ (1 : Int) < ((us.length : Nat) : Int) := fun z => e (decide_eq_true z)
        omega
      exact ⟨.ref L, rfl, L, rv, rfl, .inl ⟨.inl (.inl k3), fun t2 n2 => q _ t2 rv (j + 1) (k5.trans (sameN n2)) (.inl (.inl upd_same)) (k4.up (.of (sameN n2))) (.inr ⟨rne, j, rfl, h1, hj⟩)⟩⟩
end
/-! ### the pairs at the bottom of a node -/
section
mutual
def prs : Nd → List (Nd × Nat)
  | .el n => [(.el n, 1)]
  | .run b c => match b with
    | .blk ps => (List.replicate c (prss ps)).flatten
    | .el n => [(.el n, c)]
    | .run _ _ => []
  | .blk ps => prss ps
def prss : List Nd → List (Nd × Nat)
  | [] => []
  | n :: r => prs n ++ prss r
end
theorem prss_app : ∀ (a b : List Nd), prss (a ++ b) = prss a ++ prss b
  | [], b => by simp [prss]
  | n :: r, b => by
    show prss (n :: (r ++ b)) = _
    rw [prss, prss, prss_app r b, List.append_assoc]
/-- blocks of pieces have the pairs of the row -/
theorem prss_pieces {ns : List Nd} : ∀ (zs : List (Nat × Nat)) (b n : Nat), M10.Cont b n zs → n ≤ ns.length → prss (zs.map fun z => Nd.blk (pce ns z)) = prss ((ns.take n).drop b)
  | [], b, n, h, _ => by
    have h : b = n := h
    subst h
    rw [List.drop_eq_nil_of_le (by rw [List.length_take]; omega)]
    rfl
  | z :: r, b, n, h, hl => by
    have ih := prss_pieces r z.2 n h.2.2.2 hl
    have hb := (M10.Cont.bnd h.2.2.2).1
    have h1 := h.1
    have h2 := h.2.1
    rw [List.map_cons, prss, ih]
    have e : (ns.take n).drop b = pce ns z ++ (ns.take n).drop z.2 := by
      unfold pce
      rw [h1]
      have e1 : ns.take z.2 = (ns.take n).take z.2 := by rw [List.take_take, Nat.min_eq_left hb]
      rw [e1]
      have e2 : (ns.take n).drop b = ((ns.take n).take z.2 ++ (ns.take n).drop z.2).drop b := by rw [List.take_append_drop]
      rw [e2, List.drop_append_of_le_length (by rw [List.length_take, List.length_take]; omega)]
    rw [e, prss_app]
    rfl
theorem prss_bks {ns : List Nd} (h : 2 ≤ ns.length) : prss (bks ns) = prss ns := by
  have := prss_pieces (ns := ns) (pieces ns) 0 ns.length (pieces_cont h) (Nat.le_refl _)
  rw [List.take_length, List.drop_zero] at this
  exact this
/-- runs of blocks have the pairs of the blocks -/
theorem prs_mkRun {p : Nd × Nat} (hb : p.1.isBlk = true) (h1 : 1 ≤ p.2) : prs (mkRun p) = (List.replicate p.2 (prs p.1)).flatten := by
  obtain ⟨n, c⟩ := p
  unfold mkRun
  split
  · rename_i e
    have e : c = 1 := e
    subst e
    simp
  · cases n with
    | blk ps => rw [prs, prs]
    | el n => cases hb
    | run b c => cases hb
theorem prss_grp : ∀ (k : Nat) (ns : List Nd), ns.length = k → (∀ n ∈ ns, n.isBlk = true) → prss ((grp ns).map mkRun) = prss ns
  | 0, ns, e, _ => by
    rw [List.eq_nil_of_length_eq_zero e]
    unfold grp
    rfl
  | k + 1, ns, e, hb => by
    rcases List.eq_nil_or_concat ns with rfl | ⟨r, n, rfl⟩
    · simp at e
    · rw [List.concat_eq_append] at *
      have ih := prss_grp k r (by simpa using e) fun x hx => hb x (by simp [hx])
      have bn := hb n (by simp)
      rw [grp_app, prss_app, ← ih]
      rcases List.eq_nil_or_concat (grp r) with z | ⟨i, ⟨m, c⟩, z⟩
      · rw [z, stepG_ne (fun m c hm => by cases hm)]
        show prss [mkRun (n, 1)] = _
        unfold mkRun
        simp [prss]
      · rw [List.concat_eq_append] at z
        rw [z]
        have hm := grp_foot r (m, c) (by rw [z]; simp)
        have bm := hb m (by have := hm.1; simp [this])
        by_cases em : m = n
        · subst em
          rw [stepG_eq, List.map_append, List.map_append, prss_app, prss_app, List.append_assoc]
          refine congrArg (fun x => prss (i.map mkRun) ++ x) ?_
          show prss [mkRun (m, c + 1)] = prss [mkRun (m, c)] ++ prss [m]
          simp only [prss, List.append_nil]
          rw [prs_mkRun (p := (m, c + 1)) bm (by simp), prs_mkRun (p := (m, c)) bm hm.2.1]
          show (List.replicate (c + 1) (prs m)).flatten = _
          rw [List.replicate_succ', List.flatten_append]
          simp
        · rw [stepG_ne (fun m' c' h => by
            rw [List.getLast?_append] at h
            have : m = m' ∧ c = c' := by simpa using h
            rw [← this.1]
            exact em), List.map_append, prss_app]
          refine congrArg (fun x => prss ((i ++ [(m, c)]).map mkRun) ++ x) ?_
          show prss [mkRun (n, 1)] = prss [n]
          unfold mkRun
          rfl
theorem prss_Nx {ns : List Nd} (h : 2 ≤ ns.length) : prss (Nx ns) = prss ns := by
  unfold Nx mkRuns
  rw [prss_grp _ _ rfl fun n hn => ?_, prss_bks h]
  obtain ⟨z, _, rfl⟩ := List.mem_map.mp hn
  rfl
theorem prss_row0 : ∀ {gs : List (Nd × Nat)}, (∀ p ∈ gs, ∃ k, p.1 = .el k) → prss (gs.map mkRun) = gs
  | [], _ => rfl
  | p :: r, h => by
    obtain ⟨k, e⟩ := h p List.mem_cons_self
    obtain ⟨n, c⟩ := p
    have e : n = .el k := e
    subst e
    rw [List.map_cons, prss, prss_row0 fun q hq => h q (List.mem_cons_of_mem _ hq)]
    unfold mkRun
    split
    · rename_i e1
      have e1 : c = 1 := e1
      subst e1
      rw [prs]
      rfl
    · rw [prs]
      rfl
/-- every row has the pairs of the sequence -/
theorem prss_nx {gs : List (Nd × Nat)} (h : ∀ p ∈ gs, ∃ k, p.1 = .el k) : ∀ j, (∀ i, i < j → 1 < (nx i (gs.map mkRun)).length) → prss (nx j (gs.map mkRun)) = gs
  | 0, _ => prss_row0 h
  | j + 1, k => by
    have := prss_nx h j fun i hi => k i (by omega)
    rw [nx, prss_Nx (k j (by omega)), this]
end
end C62.T

set_option Elab.async false
set_option linter.all false
set_option maxRecDepth 100000
namespace C62.T
open PySem PySem.Spec PyProof.Rows L2 Loc RZ
section
variable {P : Program} {w : World} {K : PySem.W.Frag} {mg : Str → Option Value} {base : Heap}
theorem scTree : FnScope ["runs", "rows"] ["runs"] (defScope sTree) := ⟨rfl, rfl, rfl, by decide +kernel, rfl, by decide +kernel, by decide +kernel⟩
theorem lv_all {r0 : List Nd} (h0 : Lv r0 0) : ∀ s, (∀ j, j < s → 1 < (nx j r0).length) → Lv r0 s
  | 0, _ => h0
  | s + 1, h => ((lv_all h0 s fun j hj => h j (by omega)).next (h s (by omega))).1
theorem one_node {r0 : List Nd} {s : Nat} (h : Lv r0 s) (h1 : (nx s r0).length ≤ 1) : ∃ n, nx s r0 = [n] := by
  match e : nx s r0, h1 with
  | [n], _ => exact ⟨n, rfl⟩
  | [], _ =>
    have := h.2.2.1
    rw [e] at this
    cases this
/-- the tree of the runs -/
def TreeV (K : PySem.W.Frag) (H : Hp) (v : V) (gs : List (Nd × Nat)) : Prop := (gs = [] ∧ v = .non) ∨ (gs ≠ [] ∧ ∃ n l, NdV K H v n ∧ Ok n l ∧ l ≤ 8 ∧ ht n < 18 ∧ prs n = gs)
theorem TreeV.up {H H' : Hp} {v : V} {gs : List (Nd × Nat)} (h : TreeV K H v gs) (e : Tups K H H') : TreeV K H' v gs := h.imp id fun ⟨z, n, l, h1, h2⟩ => ⟨z, n, l, h1.up e, h2⟩
/-- the node of the last row -/
def TreeX (K : PySem.W.Frag) (H : Hp) (v : V) (gs : List (Nd × Nat)) : Prop := (gs = [] ∧ v = .non) ∨ (gs ≠ [] ∧ ∃ n l, NdV K H v n ∧ Ok n l ∧ l ≤ 8 ∧ ht n < 18 ∧ prs n = gs ∧ nx l (gs.map mkRun) = [n] ∧ Top (gs.map mkRun) (l + 1))
theorem TreeX.up {H H' : Hp} {v : V} {gs : List (Nd × Nat)} (h : TreeX K H v gs) (e : Tups K H H') : TreeX K H' v gs := h.imp id fun ⟨z, n, l, h1, h2⟩ => ⟨z, n, l, h1.up e, h2⟩
theorem TreeX.weak {H : Hp} {v : V} {gs : List (Nd × Nat)} (h : TreeX K H v gs) : TreeV K H v gs := h.imp id fun ⟨z, n, l, h1, h2, h3, h4, h5, _⟩ => ⟨z, n, l, h1, h2, h3, h4, h5⟩
/-- equal contents have one tree -/
theorem TreeX.one {H H' : Hp} {v u : V} {gs : List (Nd × Nat)} (h : TreeX K H v gs) (k : TreeX K H' u gs) : (gs = [] ∧ v = .non ∧ u = .non) ∨ (gs ≠ [] ∧ ∃ n l, NdV K H v n ∧ NdV K H' u n ∧ Ok n l ∧ l ≤ 8 ∧ ht n < 18 ∧ prs n = gs) := by
  rcases h with ⟨z, e⟩ | ⟨z, n, l, h1, h2, h3, h4, h5, h6, h7⟩
  · rcases k with ⟨_, e2⟩ | ⟨z2, _⟩
    · exact .inl ⟨z, e, e2⟩
    · exact absurd z z2
  · rcases k with ⟨z2, _⟩ | ⟨_, n2, l2, k1, k2, k3, k4, k5, k6, k7⟩
    · exact absurd z2 z
    · have := h7.one k7
      have el : l2 = l := by omega
      subst el
      rw [h6] at k6
      have en : n = n2 := by simpa using k6
      subst en
      exact .inr ⟨z, n, _, h1, k1, h2, h3, h4, h5⟩
def spTreeX (K : PySem.W.Frag) : Sp := fun vs H Q _ => ∃ (a : Addr) (ws : List V) (gs : List (Nd × Nat)), vs = [.ref a] ∧ SqT K H a ws ∧ PrsV K H ws gs ∧ Giv gs ∧ gs.length ≤ 300 ∧ ∀ H' u, Same H H' → TreeX K H' u gs → Q u H'
def spTree (K : PySem.W.Frag) : Sp := fun vs H Q _ => ∃ (a : Addr) (ws : List V) (gs : List (Nd × Nat)), vs = [.ref a] ∧ SqT K H a ws ∧ PrsV K H ws gs ∧ Giv gs ∧ gs.length ≤ 300 ∧ ∀ H' u, Same H H' → TreeV K H' u gs → Q u H'
theorem ok_treeX {f g : Addr} {fd gd : FuncData} (F : Fun K "tree_of" "tree_of" sTree f fd) (G : FnOk P w K mg base CX0 24 g gd ["runs"] (spRows K)) (G' : Fun K "rows_of" "rows_of" sRows g gd) (gG : mg "rows_of" = some (.ref g)) (bG : Binds K gd ["runs"] []) (ml : mg "len" = none) : FnOk P w K mg base CX0 25 f fd ["runs"] (spTreeX K) := by
  refine F.ok scTree (fun vs H Q E h => ?_) (fun cdv A outer s H vs Q E hr h => ?_)
  · obtain ⟨a, ws, gs, rfl, _⟩ := h
    rfl
  · obtain ⟨a, ws, gs, rfl, hT, hP, giv, l300, q⟩ := h
    refine ⟨_, pss_cons (ps_set (i := 1) scTree.nd rfl (.inl rfl) (pe_call G hr (by rfl) gG G'.kp bG .nil pass0 (pa_cons (pv 0) pa_nil)))
      (pss_cons (ps_if (pt_cmpR op_eq (pe_callB call_len_seq (by rfl) ml PySem.boot_len (pa_cons (pv 1) pa_nil)) pe_int (nomark _)) (pss_one (ps_ret pe_non)) pss_nil)
      (pss_one (ps_ret (pe_ix ix_tup (pe_ix ix_tup (pv 1) (pe_un un_neg pe_int) (fun _ _ => rfl)) pe_int (fun _ _ => rfl))))), ?_⟩
    refine ⟨.ref a, rfl, a, ws, gs, rfl, hT, hP, giv, l300, fun H1 p us t s1 hp hR top => ?_⟩
    refine ⟨.ref p, rfl, p, us, rfl, .inr hp, rfl, _, rfl, ?_⟩
    have lus : us.length = t := hR.1
    rcases top with ⟨z, rfl⟩ | ⟨rne, s', rfl, h1, hj⟩
    · rw [decide_eq_true (show V.int ((us.length : Nat) : Int) = V.int 0 by rw [lus]; rfl)]
      exact iteT (q H1 _ s1 (.inl ⟨by simpa using z, rfl⟩))
    have gne : gs ≠ [] := fun z => rne (by rw [z]; rfl)
    have lv0 := giv_row0 giv gne l300
    have lv := lv_all lv0 s' hj
    obtain ⟨n, en⟩ := one_node lv h1
    have okn : Ok n s' := lv.1.mem n (by rw [en]; exact List.mem_cons_self)
    have pn : prs n = gs := by
      have := prss_nx (gs := gs) (fun p hp => by
        obtain ⟨⟨k, e, _⟩, _⟩ := giv.1 p hp
        exact ⟨k, e⟩) s' hj
      rw [en, prss, prss, List.append_nil] at this
      exact this
    obtain ⟨v, hv⟩ := get_of (l := us) (i := s') (by omega)
    obtain ⟨ra, xs, rfl, hra, hx⟩ := hR.2 s' v hv
    rw [en] at hx
    obtain ⟨u, q0, rfl, hu, _⟩ := hx.inv
    rw [decide_eq_false (show ¬ V.int ((us.length : Nat) : Int) = V.int 0 from fun z => by
      have := V.int.inj z
      omega)]
    refine iteF ⟨.ref p, rfl, 1, rfl, p, us, -1, .ref ra, rfl, rfl, hp, ?_, ra, _, 0, u, rfl, rfl, hra, atI_nat (j := 0) rfl, q H1 u s1 (.inr ⟨gne, n, s', hu, okn, lv.small.1, ?_, pn, en, .inr ⟨rne, s', rfl, h1, hj⟩⟩)⟩
    · rcases List.eq_nil_or_concat us with e1 | ⟨init, y, e1⟩
      · rw [e1] at lus
        cases lus
      · rw [e1, List.concat_eq_append] at hv lus ⊢
        rw [List.length_append] at lus
        have li : init.length = s' := by simpa using lus
        rw [List.getElem?_append_right (by omega), li, Nat.sub_self] at hv
        rw [Option.some.inj hv]
        exact atI_last _ _
    · have := ht_le n s' okn
      have := lv.small.1
      split at * <;> omega
theorem fn_to {k : Nat} {f : Addr} {fd : FuncData} {ps : List Str} {s1 s2 : Sp} (F : FnOk P w K mg base CX0 k f fd ps s1) (h : ∀ vs H Q E, s2 vs H Q E → s1 vs H Q E) : FnOk P w K mg base CX0 k f fd ps s2 :=
  ⟨fun vs H Q E g => F.len vs H Q E (h _ _ _ _ g), fun A outer s H args us vs Q E a b c d g => F.run A outer s H args us vs Q E a b c d (h _ _ _ _ g)⟩
theorem ok_tree {f g : Addr} {fd gd : FuncData} (F : Fun K "tree_of" "tree_of" sTree f fd) (G : FnOk P w K mg base CX0 24 g gd ["runs"] (spRows K)) (G' : Fun K "rows_of" "rows_of" sRows g gd) (gG : mg "rows_of" = some (.ref g)) (bG : Binds K gd ["runs"] []) (ml : mg "len" = none) : FnOk P w K mg base CX0 25 f fd ["runs"] (spTree K) :=
  fn_to (ok_treeX F G G' gG bG ml) fun vs H Q E ⟨a, ws, gs, e, h1, h2, h3, h4, h5⟩ => ⟨a, ws, gs, e, h1, h2, h3, h4, fun H' u s k => h5 H' u s k.weak⟩
end
/-! ### the trees of the program -/
section
variable {P : Program} {w : World} {K : PySem.W.Frag} {mg : Str → Option Value} {base : Heap}
theorem base_blocks (X : Facts K mg) : FnOk P w K mg base CX0 23 X.ublocks X.vblocks ["row"] (spBlocks K 16) := by
  have GF : FnOk P w K mg base CX0 19 X.ufirst_marks X.vfirst_marks ["row"] (spFirst K 16) := ok_first (m := 16) X.ffirst_marks
    { A := X.fis_run, C := X.fis_block, X := X.ftext_of, F1 := X.ffirst_mark, F2 := X.ffirst_unlike, F3 := X.fcode_at, gA := X.gis_run, gC := X.gis_block, gX := X.gtext_of, gF1 := X.gfirst_mark, gF2 := X.gfirst_unlike, gF3 := X.gcode_at, bA := X.bis_run, bC := X.bis_block, bX := X.btext_of, bF1 := X.bfirst_mark, bF2 := X.bfirst_unlike, bF3 := X.bcode_at,
      SIGNS := X.SIGNS, ENDED := X.ENDED, len := X.len, tuple := X.tuple, range := X.range, isinstance := X.isinstance, str := X.str }
  have G1 : FnOk P w K mg base CX0 2 X.unext_marks X.vnext_marks ["some"] (spNext K) := ok_next X.fnext_marks X.fnext_mark X.gnext_mark X.bnext_mark X.len X.range X.tuple
  have G3 := ok_marks (m := 16) X.fmarks GF X.ffirst_marks X.gfirst_marks X.bfirst_marks G1 X.fnext_marks X.gnext_marks X.bnext_marks X.range
  have G4 := ok_peaks (m := 16) X.fpeaks G3 X.fmarks X.gmarks X.bmarks X.range X.len X.tuple
  have G5 := ok_cuts (m := 16) X.fcuts G4 X.fpeaks X.gpeaks X.bpeaks X.range X.len X.tuple X.zip X.list
  exact ok_blocks (m := 16) X.fblocks G5 X.fcuts X.gcuts X.bcuts X.len X.tuple X.zip
theorem base_rows (X : Facts K mg) : FnOk P w K mg base CX0 24 X.urows_of X.vrows_of ["runs"] (spRows K) :=
  ok_rows X.frows_of (base_blocks X) X.fblocks X.gblocks X.bblocks (ok_made X.fmade_runs X.frun_of X.grun_of X.brun_of X.len X.tuple) X.fmade_runs X.gmade_runs X.bmade_runs X.frun_of X.grun_of X.brun_of X.len X.tuple
theorem base_tree (X : Facts K mg) : FnOk P w K mg base CX0 25 X.utree_of X.vtree_of ["runs"] (spTree K) :=
  ok_tree X.ftree_of (base_rows X) X.frows_of X.grows_of X.brows_of X.len
theorem base_treeX (X : Facts K mg) : FnOk P w K mg base CX0 25 X.utree_of X.vtree_of ["runs"] (spTreeX K) :=
  ok_treeX X.ftree_of (base_rows X) X.frows_of X.grows_of X.brows_of X.len
end
end C62.T

set_option Elab.async false
set_option linter.all false
set_option maxRecDepth 100000
namespace C62.T
open PySem PySem.Spec PyProof.Rows L2 Loc RZ
/-! ### how many pairs -/
theorem prss_mem : ∀ {ps : List Nd} {n : Nd}, n ∈ ps → (prs n).length ≤ (prss ps).length
  | a :: r, n, h => by
    rw [prss, List.length_append]
    rcases List.mem_cons.mp h with rfl | h
    · omega
    · have := prss_mem h
      omega
theorem prss_len : ∀ ps : List Nd, ((prss ps).length : Int) = (ps.map fun n => (((prs n).length : Nat) : Int)).sum
  | [] => by simp [prss]
  | n :: r => by
    have := prss_len r
    rw [prss, List.length_append, List.map_cons, List.sum_cons, ← this]
    omega
section
variable {P : Program} {w : World} {K : PySem.W.Frag} {mg : Str → Option Value} {base : Heap}
theorem scCnt : FnScope ["tree", "part"] ["tree"] (defScope sCnt) := ⟨rfl, rfl, rfl, by decide +kernel, rfl, by decide +kernel, by decide +kernel⟩
def spCnt (K : PySem.W.Frag) (m : Nat) : Sp := fun vs H Q _ => ∃ v n l, vs = [v] ∧ NdV K H v n ∧ Ok n l ∧ (prs n).length ≤ 100000 ∧ ht n < m ∧ ∀ H', Same H H' → Q (.int ((prs n).length : Nat)) H'
theorem nd_some {H : Hp} {v : V} {n : Nd} (h : NdV K H v n) : v ≠ .non := by
  cases n with
  | el k => rw [h.el]; exact fun z => nomatch z
  | run b c =>
    obtain ⟨a, v2, rfl, _⟩ := h.run
    exact fun z => nomatch z
  | blk ps =>
    obtain ⟨a, b, vs, rfl, _⟩ := h.blk
    exact fun z => nomatch z
theorem ok_cnt {f g b : Addr} {fd gd bd : FuncData} (F : Fun K "run_count" "run_count" sCnt f fd) (gF : mg "run_count" = some (.ref f)) (bF : Binds K fd ["tree"] []) (R : Fun K "is_run" "is_run" sIsRun g gd) (gR : mg "is_run" = some (.ref g)) (bR : Binds K gd ["value"] [])
    (B : Fun K "is_block" "is_block" sIsBlk b bd) (gB : mg "is_block" = some (.ref b)) (bB : Binds K bd ["value"] []) (mi : mg "isinstance" = none) (mt : mg "tuple" = none) (ms : mg "sum" = none) : ∀ m : Nat, FnOk P w K mg base CX0 (m + 1) f fd ["tree"] (spCnt K m)
  | 0 => ⟨fun vs H Q E h => by obtain ⟨v, n, l, _, _, _, _, h, _⟩ := h; exact absurd h (Nat.not_lt_zero _), fun A outer s H args us vs Q E _ _ _ _ h => by obtain ⟨v, n, l, _, _, _, _, h, _⟩ := h; exact absurd h (Nat.not_lt_zero _)⟩
  | m + 1 => by
    have IH : FnOk P w K mg base CX0 (m + 1) f fd ["tree"] (spCnt K m) := ok_cnt F gF bF R gR bR B gB bB mi mt ms m
    have GR : FnOk P w K mg base CX0 (m + 1) g gd ["value"] (spIsRun K) := ok_isrun R mi mt
    have GB : FnOk P w K mg base CX0 (m + 1) b bd ["value"] (spIsBlk K) := ok_isblk B mi mt
    refine F.ok scCnt (fun vs H Q E h => ?_) (fun cdv A outer s H vs Q E hr h => ?_)
    · obtain ⟨v, n, l, rfl, _⟩ := h
      rfl
    · obtain ⟨v, n, l, rfl, hn, ok, hl, hh, q⟩ := h
      refine ⟨_, pss_cons (ps_if (pt_cmpR op_isN (pv 0) pe_non (nomark _)) (pss_one (ps_ret pe_int)) pss_nil)
        (pss_cons (ps_if (pt_val (pe_call GB hr (by rfl) gB B.kp bB .nil pass0 (pa_cons (pv 0) pa_nil)))
            (pss_one (ps_ret (pe_callB (cr_sum rfl) (by rfl) ms PyProof.Rows.boot_sum (pa_cons (pe_lc (own := [("part", 1)]) (g := gName 1) (tt := tYes) rfl scCnt.nd (pi_tup (pe_ix ix_tup (pv 0) pe_int (fun _ _ => rfl)))
              (blkOk_by (N := ["tree", "part"]) (sc := defScope sCnt) (by decide +kernel)) (fun _ _ _ _ _ => pg_name (i := 1) scCnt.nd rfl (Or.inl rfl)) (fun _ _ _ _ _ => pts_nil)
              (fun _ _ _ _ _ => pe_call IH hr (by rfl) gF F.kp bF .nil pass0 (pa_cons (pv 1) pa_nil))) pa_nil)))) pss_nil)
        (pss_cons (ps_if (PW.pt (pw_and (pt_val (pe_call GR hr (by rfl) gR R.kp bR .nil pass0 (pa_cons (pv 0) pa_nil))) (pw_and1 (pt_val (pe_call GB hr (by rfl) gB B.kp bB .nil pass0 (pa_cons (pe_ix ix_tup (pv 0) pe_int (fun _ _ => rfl)) pa_nil))))))
            (pss_one (ps_ret (pe_op op_mul (pe_call IH hr (by rfl) gF F.kp bF .nil pass0 (pa_cons (pe_ix ix_tup (pv 0) pe_int (fun _ _ => rfl)) pa_nil)) (pe_ix ix_tup (pv 0) pe_int (fun _ _ => rfl))))) pss_nil)
        (pss_one (ps_ret pe_int)))), ?_⟩
      refine ⟨v, rfl, rfl, _, rfl, ?_⟩
      rw [decide_eq_false (nd_some hn)]
      refine iteF ?_
      refine ⟨v, rfl, v, n, rfl, hn, fun H1 s1 => ?_⟩
      have hn1 := hn.up (.of s1)
      cases n with
      | run b c =>
        refine ⟨_, rfl, iteF ?_⟩
        refine ⟨v, rfl, v, _, rfl, hn1, fun H2 s2 => ⟨_, rfl, ?_⟩⟩
        obtain ⟨a, v2, rfl, h1, h2⟩ := (hn1.up (.of s2)).run
        unfold Ok at ok
        refine ⟨.ref a, rfl, a, _, 1, v2, rfl, rfl, h1, rfl, v2, b, rfl, h2, fun H3 s3 => ⟨_, rfl, ?_⟩⟩
        have s13 := s1.trans (s2.trans s3)
        cases b with
        | run _ _ => cases ok.2.2.1
        | el k =>
          refine iteF ?_
          have := q H3 s13
          rw [prs] at this
          exact this
        | blk ps =>
          have e1 : (prs (.run (.blk ps) c)).length = c * (prs (.blk ps)).length := by
            rw [prs, prs, List.length_flatten]
            simp
          have c2 := ok.1
          have le : (prs (.blk ps)).length ≤ 100000 := by
            have := Nat.mul_le_mul_right (prs (.blk ps)).length (show 1 ≤ c by omega)
            omega
          refine iteT ⟨.ref a, rfl, a, _, 1, v2, rfl, rfl, sameT s3 h1, rfl, v2, .blk ps, l, rfl, h2.up (.of s3), ok.2.2.2, le, ?_, fun H4 s4 => ?_⟩
          · unfold ht at hh
            omega
          refine ⟨.ref a, rfl, a, _, 2, .int c, rfl, rfl, sameT (s3.trans s4) h1, rfl, _, _, rfl, rfl, .inl ⟨by omega, by omega⟩, ?_⟩
          have := q H4 (s13.trans s4)
          rw [e1, Int.natCast_mul, Int.mul_comm] at this
          exact this
      | el n =>
        refine ⟨_, rfl, iteF ?_⟩
        refine ⟨v, rfl, v, .el n, rfl, hn1, fun H2 s2 => ⟨_, rfl, iteF ?_⟩⟩
        have := q H2 (s1.trans s2)
        rw [prs] at this
        exact this
      | blk ps =>
        refine ⟨_, rfl, iteT ?_⟩
        obtain ⟨a, bb, vs, rfl, h1, h2, h3⟩ := hn1.blk
        unfold Ok at ok
        obtain ⟨l1, l2, l3, okp, _⟩ := ok
        have lv := h3.len
        rw [prs] at hl q
        refine ⟨.ref a, rfl, a, _, 1, .ref bb, rfl, rfl, h1, rfl, bb, rfl, ⟨vs, h2⟩, fun D nD => ?_⟩
        refine lc_tup (xs := vs) (fun i H' => H' D = some (.lst (((ps.map fun n => (((prs n).length : Nat) : Int)).take i).map V.int)) ∧ Same H1 H') ⟨by rw [List.take_zero]; exact upd_same, sameN nD⟩ (fun i H' _ hp => sameT hp.2 h2) (fun i u H' hu hp => ?_) (fun H' hp => ?_)
        · obtain ⟨g1, s3⟩ := hp
          obtain ⟨x, hx, kx⟩ := (h3.up (.of s3)).get hu
          have hmem := List.mem_of_getElem? hx
          have ht2 : ht x < m := by
            have := hts_mem hmem
            unfold ht at hh
            omega
          have hx2 := prss_mem hmem
          have htx : (ps.map fun n => (((prs n).length : Nat) : Int))[i]? = some (((prs x).length : Nat) : Int) := by rw [List.getElem?_map, hx]; rfl
          refine ⟨rfl, u, rfl, u, x, l - 1, rfl, kx, okp.mem x hmem, by omega, ht2, fun H3 s4 => ⟨_, s4 _ _ g1, ?_, ?_, sameW (s3.trans s4) nD⟩⟩
          · rw [List.length_map]
            refine line5 (small_take ?_)
            rw [List.length_map]
            omega
          · rw [upd_same, take_more htx, List.map_append]
            rfl
        · obtain ⟨g1, s3⟩ := hp
          have full : (ps.map fun n => (((prs n).length : Nat) : Int)).take vs.length = ps.map fun n => (((prs n).length : Nat) : Int) := List.take_of_length_le (by rw [List.length_map, lv]; exact Nat.le_refl _)
          rw [full] at g1
          refine ⟨D, _, rfl, .inl (.inl g1), ?_⟩
          have := q H' (s1.trans s3)
          rw [prss_len] at this
          exact this
end
/-! ### the pairs -/
theorem prs_ne : ∀ {n : Nd} {l : Nat}, Ok n l → prs n ≠ []
  | .el k, l, _ => by rw [prs]; simp
  | .run (.el k) c, l, _ => by rw [prs]; simp
  | .run (.run _ _) c, l, h => by
    unfold Ok at h
    cases h.2.2.1
  | .run (.blk ps) c, l, h => by
    unfold Ok at h
    have ih := prs_ne (n := .blk ps) h.2.2.2
    rw [prs] at ih
    rw [prs]
    intro z
    obtain ⟨c', rfl⟩ : ∃ c', c = c' + 1 := ⟨c - 1, by have := h.1; omega⟩
    rw [List.replicate_succ, List.flatten_cons] at z
    exact ih (List.append_eq_nil_iff.mp z).1
  | .blk [], l, h => by
    unfold Ok at h
    have := h.2.1
    simp at this
  | .blk (a :: r), l, h => by
    unfold Ok at h
    have oa := h.2.2.2.1.mem a List.mem_cons_self
    have ih := prs_ne oa
    rw [prs, prss]
    intro z
    exact ih (List.append_eq_nil_iff.mp z).1
section
variable {P : Program} {w : World} {K : PySem.W.Frag} {mg : Str → Option Value} {base : Heap}
theorem prsV_rep {H : Hp} {ws : List V} {ps : List (Nd × Nat)} (h : PrsV K H ws ps) : ∀ c : Nat, PrsV K H (List.replicate c ws).flatten (List.replicate c ps).flatten
  | 0 => .nil
  | c + 1 => by
    rw [List.replicate_succ, List.replicate_succ, List.flatten_cons, List.flatten_cons]
    exact h.app (prsV_rep h c)
theorem scPairs : FnScope ["tree", "pairs", "part"] ["tree"] (defScope sPairs) := ⟨rfl, rfl, rfl, by decide +kernel, rfl, by decide +kernel, by decide +kernel⟩
def spPairs (K : PySem.W.Frag) (m : Nat) : Sp := fun vs H Q _ => ∃ v n l, vs = [v] ∧ NdV K H v n ∧ Ok n l ∧ (prs n).length ≤ 1000 ∧ ht n < m ∧ ∀ H' p ws, Same H H' → SqT K H' p ws → PrsV K H' ws (prs n) → Q (.ref p) H'
theorem ok_pairs {f g b : Addr} {fd gd bd : FuncData} (F : Fun K "_pairs_of" "_pairs_of" sPairs f fd) (gF : mg "_pairs_of" = some (.ref f)) (bF : Binds K fd ["tree"] []) (R : Fun K "is_run" "is_run" sIsRun g gd) (gR : mg "is_run" = some (.ref g)) (bR : Binds K gd ["value"] [])
    (B : Fun K "is_block" "is_block" sIsBlk b bd) (gB : mg "is_block" = some (.ref b)) (bB : Binds K bd ["value"] []) (mi : mg "isinstance" = none) (mt : mg "tuple" = none) : ∀ m : Nat, FnOk P w K mg base CX0 (m + 1) f fd ["tree"] (spPairs K m)
  | 0 => ⟨fun vs H Q E h => by obtain ⟨v, n, l, _, _, _, _, h, _⟩ := h; exact absurd h (Nat.not_lt_zero _), fun A outer s H args us vs Q E _ _ _ _ h => by obtain ⟨v, n, l, _, _, _, _, h, _⟩ := h; exact absurd h (Nat.not_lt_zero _)⟩
  | m + 1 => by
    have IH : FnOk P w K mg base CX0 (m + 1) f fd ["tree"] (spPairs K m) := ok_pairs F gF bF R gR bR B gB bB mi mt m
    have GR : FnOk P w K mg base CX0 (m + 1) g gd ["value"] (spIsRun K) := ok_isrun R mi mt
    have GB : FnOk P w K mg base CX0 (m + 1) b bd ["value"] (spIsBlk K) := ok_isblk B mi mt
    refine F.ok scPairs (fun vs H Q E h => ?_) (fun cdv A outer s H vs Q E hr h => ?_)
    · obtain ⟨v, n, l, rfl, _⟩ := h
      rfl
    · obtain ⟨v, n, l, rfl, hn, ok, hl, hh, q⟩ := h
      refine ⟨_, pss_cons (ps_if (pt_cmpR op_isN (pv 0) pe_non (nomark _)) (pss_one (ps_ret (pe_tup pa_nil))) pss_nil)
        (pss_cons (ps_if (pt_val (pe_call GB hr (by rfl) gB B.kp bB .nil pass0 (pa_cons (pv 0) pa_nil)))
            (pss_cons (ps_set (i := 1) scPairs.nd rfl (.inl rfl) (pe_lst pa_nil))
            (pss_cons (ps_for PassesOwn.never rfl (pi_tup (pe_ix ix_tup (pv 0) pe_int (fun _ _ => rfl))) (pg_name (i := 2) scPairs.nd rfl (.inl rfl))
              (pss_one (ps_expr (pe_bm PySem.F.plainAttrs_list PySem.F.slot_list_extend PySem.F.type_list_extend mt_extendT (pv 1) (pa_cons (pe_call IH hr (by rfl) gF F.kp bF .nil pass0 (pa_cons (pv 2) pa_nil)) pa_nil)))))
            (pss_one (ps_ret (pe_callTy call_tuple_of (by rfl) mt PyProof.Rows.boot_tuple (pa_cons (pv 1) pa_nil)))))) pss_nil)
        (pss_cons (ps_if (pt_not (pt_val (pe_call GR hr (by rfl) gR R.kp bR .nil pass0 (pa_cons (pv 0) pa_nil)))) (pss_one (ps_ret (pe_tup (pa_cons (pe_tup (pa_cons (pv 0) (pa_cons pe_int pa_nil))) pa_nil)))) pss_nil)
        (pss_cons (ps_if (pt_val (pe_call GB hr (by rfl) gB B.kp bB .nil pass0 (pa_cons (pe_ix ix_tup (pv 0) pe_int (fun _ _ => rfl)) pa_nil)))
            (pss_one (ps_ret (pe_op op_repT (pe_call IH hr (by rfl) gF F.kp bF .nil pass0 (pa_cons (pe_ix ix_tup (pv 0) pe_int (fun _ _ => rfl)) pa_nil)) (pe_ix ix_tup (pv 0) pe_int (fun _ _ => rfl))))) pss_nil)
        (pss_one (ps_ret (pe_tup (pa_cons (pe_tup (pa_cons (pe_ix ix_tup (pv 0) pe_int (fun _ _ => rfl)) (pa_cons (pe_ix ix_tup (pv 0) pe_int (fun _ _ => rfl)) pa_nil))) pa_nil))))))), ?_⟩
      refine ⟨v, rfl, rfl, _, rfl, ?_⟩
      rw [decide_eq_false (nd_some hn)]
      refine iteF ?_
      refine ⟨v, rfl, v, n, rfl, hn, fun H1 s1 => ?_⟩
      have hn1 := hn.up (.of s1)
      cases n with
      | run b c =>
        refine ⟨_, rfl, iteF ?_⟩
        refine ⟨v, rfl, v, _, rfl, hn1, fun H2 s2 => ⟨_, rfl, iteF ?_⟩⟩
        obtain ⟨a, v2, rfl, h1, h2⟩ := (hn1.up (.of s2)).run
        unfold Ok at ok
        refine ⟨.ref a, rfl, a, _, 1, v2, rfl, rfl, h1, rfl, v2, b, rfl, h2, fun H3 s3 => ⟨_, rfl, ?_⟩⟩
        have s13 := s1.trans (s2.trans s3)
        cases b with
        | run _ _ => cases ok.2.2.1
        | el k =>
          refine iteF ?_
          refine ⟨.ref a, rfl, a, _, 1, v2, rfl, rfl, sameT s3 h1, rfl, .ref a, rfl, a, _, 2, .int c, rfl, rfl, sameT s3 h1, rfl, (show 2 ≤ sizeLine from by decide), fun t1 n1 => ⟨(show 1 ≤ sizeLine from by decide), fun t2 n2 => ?_⟩⟩
          have s45 := (sameN (o := .tup [v2, .int (c : Nat)]) n1).trans (sameN (o := .tup [.ref t1]) n2)
          refine q _ t2 _ (s13.trans s45) (.inl (.inl upd_same)) ?_
          rw [prs]
          exact PrsV.one (p := (.el k, c)) (.inl (.inl (sameN n2 _ _ upd_same))) ((h2.up (.of s3)).up (.of s45))
        | blk ps =>
          have e1 : (prs (.run (.blk ps) c)) = (List.replicate c (prs (.blk ps))).flatten := by
            rw [prs, prs]
          have e2 : (prs (.run (.blk ps) c)).length = c * (prs (.blk ps)).length := by
            rw [e1, List.length_flatten]
            simp
          have ne := prs_ne ok.2.2.2
          have l1 : 1 ≤ (prs (.blk ps)).length := List.length_pos_iff.mpr ne
          have c2 := ok.1
          have le : (prs (.blk ps)).length ≤ 1000 := by
            have := Nat.mul_le_mul_right (prs (.blk ps)).length (show 1 ≤ c by omega)
            omega
          have c1000 : c ≤ 1000 := by
            have := Nat.mul_le_mul_left c l1
            omega
          refine iteT ⟨.ref a, rfl, a, _, 1, v2, rfl, rfl, sameT s3 h1, rfl, v2, .blk ps, l, rfl, h2.up (.of s3), ok.2.2.2, le, ?_, fun H4 p ws s4 hp kP => ?_⟩
          · unfold ht at hh
            omega
          have lw := PrsV.len kP
          refine ⟨.ref a, rfl, a, _, 2, .int c, rfl, rfl, sameT (s3.trans s4) h1, rfl, p, _, ws, rfl, rfl, hp, (fun z => by rw [z] at lw; simp at lw; omega), by omega, by omega, by omega, fun t nt => ?_⟩
          refine q _ t _ ((s13.trans s4).trans (sameN nt)) (.inl (.inl upd_same)) ?_
          rw [e1]
          exact prsV_rep (PrsV.up (.of (sameN nt)) kP) c
      | el k =>
        refine ⟨_, rfl, iteF ?_⟩
        refine ⟨v, rfl, v, .el k, rfl, hn1, fun H2 s2 => ⟨_, rfl, iteT ?_⟩⟩
        refine ⟨v, rfl, (show 2 ≤ sizeLine from by decide), fun t1 n1 => ⟨(show 1 ≤ sizeLine from by decide), fun t2 n2 => ?_⟩⟩
        have s45 := (sameN (o := .tup [v, .int 1]) n1).trans (sameN (o := .tup [.ref t1]) n2)
        refine q _ t2 _ ((s1.trans s2).trans s45) (.inl (.inl upd_same)) ?_
        rw [prs]
        exact PrsV.one (p := (.el k, 1)) (.inl (.inl (sameN n2 _ _ upd_same))) ((hn1.up (.of s2)).up (.of s45))
      | blk ps =>
        refine ⟨_, rfl, iteT ?_⟩
        obtain ⟨a, bb, vs, rfl, h1, h2, h3⟩ := hn1.blk
        unfold Ok at ok
        obtain ⟨l1, l2, l3, okp, _⟩ := ok
        have lv := h3.len
        rw [prs] at hl q
        refine ⟨(show 0 ≤ sizeLine from by decide), fun L nL => ?_⟩
        have sL := sameN (o := .lst []) nL
        refine ⟨.ref a, rfl, a, _, 1, .ref bb, rfl, rfl, sameT sL h1, rfl, bb, rfl, ⟨vs, sameT sL h2⟩, ?_⟩
        refine for_tup (xs := vs) (fun i σ H' => ∃ y ws, σ = [some (.ref a), some (.ref L), y] ∧ H' L = some (.lst ws) ∧ PrsV K H' ws (prss (ps.take i)) ∧ Same H1 H') ⟨none, [], rfl, upd_same, .nil, sL⟩ (fun i σ H' _ hp => ?_) (fun i u σ H' hu hp => ?_) (fun σ H' hp => ?_)
        · obtain ⟨_, _, _, _, _, s3⟩ := hp
          exact sameT s3 h2
        · obtain ⟨y, ws, rfl, gL, kP, s3⟩ := hp
          obtain ⟨x, hx, kx⟩ := (h3.up (.of s3)).get hu
          have hmem := List.mem_of_getElem? hx
          have ht2 : ht x < m := by
            have := hts_mem hmem
            unfold ht at hh
            omega
          have hx2 := prss_mem hmem
          have tk : ps.take (i + 1) = ps.take i ++ [x] := take_more hx
          have e1 : prss (ps.take (i + 1)) = prss (ps.take i) ++ prs x := by
            rw [tk, prss_app, prss, prss, List.append_nil]
          have e2 : (prss (ps.take i)).length + (prs x).length ≤ (prss ps).length := by
            have := congrArg prss (List.take_append_drop (i + 1) ps)
            rw [prss_app, e1] at this
            have := congrArg List.length this
            rw [List.length_append, List.length_append] at this
            omega
          refine ⟨.ref L, rfl, .inl ⟨rfl, _, .inl (.inl gL)⟩, u, rfl, u, x, l - 1, rfl, kx, okp.mem x hmem, by omega, ht2, fun H3 p zs s4 hp kz => ?_⟩
          have lz := PrsV.len kz
          have lw := PrsV.len kP
          have gL3 := s4 _ _ gL
          have t9 : Tups K H3 (upd H3 L (.lst (ws ++ zs))) := (But.set (p := L)).tups gL3
          refine ⟨L, p, ws, zs, rfl, rfl, gL3, hp, Nat.le_trans (show ws.length + zs.length ≤ 1000 by omega) (by decide), _, ws ++ zs, rfl, upd_same, ?_, sameW (s3.trans s4) nL⟩
          rw [e1]
          exact (PrsV.up t9 (PrsV.up (.of s4) kP)).app (PrsV.up t9 kz)
        · obtain ⟨y, ws, rfl, gL, kP, s3⟩ := hp
          have full : ps.take vs.length = ps := List.take_of_length_le (by rw [lv]; exact Nat.le_refl _)
          rw [full] at kP
          exact ⟨.ref L, rfl, L, ws, rfl, .inl ⟨.inl (.inl gL), fun t nt => q _ t ws ((s1.trans s3).trans (sameN nt)) (.inl (.inl upd_same)) (PrsV.up (.of (sameN nt)) kP)⟩⟩
end
section
variable {P : Program} {w : World} {K : PySem.W.Frag} {mg : Str → Option Value} {base : Heap}
def spNone0 : Sp := fun vs H Q _ => vs = [.non] ∧ Q (.int 0) H
def spNoneT : Sp := fun vs H Q _ => vs = [.non] ∧ ∀ t, H t = none → Q (.ref t) (upd H t (.tup []))
theorem ok_cnt0 {f : Addr} {fd : FuncData} {k : Nat} (F : Fun K "run_count" "run_count" sCnt f fd) : FnOk P w K mg base CX0 (k + 1) f fd ["tree"] spNone0 := by
  refine F.ok scCnt (fun vs H Q E h => by rw [h.1]; rfl) (fun cdv A outer s H vs Q E hr h => ?_)
  obtain ⟨rfl, q⟩ := h
  exact ⟨_, pss_cons (ps_if (pt_cmpR op_isN (pv 0) pe_non (nomark _)) (pss_one (ps_ret pe_int)) pss_nil) pss_never, .non, rfl, rfl, _, rfl, q⟩
theorem ok_pairs0 {f : Addr} {fd : FuncData} {k : Nat} (F : Fun K "_pairs_of" "_pairs_of" sPairs f fd) : FnOk P w K mg base CX0 (k + 1) f fd ["tree"] spNoneT := by
  refine F.ok scPairs (fun vs H Q E h => by rw [h.1]; rfl) (fun cdv A outer s H vs Q E hr h => ?_)
  obtain ⟨rfl, q⟩ := h
  exact ⟨_, pss_cons (ps_if (pt_cmpR op_isN (pv 0) pe_non (nomark _)) (pss_one (ps_ret (pe_tup pa_nil))) pss_nil) pss_never, .non, rfl, rfl, _, rfl, (show 0 ≤ sizeLine from by decide), q⟩
end
/-! ### pairs of trees counted -/
section
variable {P : Program} {w : World} {K : PySem.W.Frag} {mg : Str → Option Value} {base : Heap}
def spCntT (K : PySem.W.Frag) : Sp := fun vs H Q _ => ∃ v gs, vs = [v] ∧ TreeV K H v gs ∧ gs.length ≤ 300 ∧ ∀ H', Same H H' → Q (.int (gs.length : Nat)) H'
theorem cnt_tree (X : Facts K mg) : FnOk P w K mg base CX0 19 X.urun_count X.vrun_count ["tree"] (spCntT K) :=
  fn_to (fn_or (ok_cnt X.frun_count X.grun_count X.brun_count X.fis_run X.gis_run X.bis_run X.fis_block X.gis_block X.bis_block X.isinstance X.tuple X.sum 18) (ok_cnt0 X.frun_count)) fun vs H Q E h => by
    obtain ⟨v, gs, rfl, hT, hl, q⟩ := h
    rcases hT with ⟨rfl, rfl⟩ | ⟨_, n, l, hn, okn, _, htn, pn⟩
    · exact .inr ⟨rfl, q H (Same.refl H)⟩
    · exact .inl ⟨v, n, l, rfl, hn, okn, by rw [pn]; omega, htn, fun H' s => by rw [pn]; exact q H' s⟩
theorem giv_ok0 {gs : List (Nd × Nat)} (g : Giv gs) : ∀ p ∈ gs, Ok p.1 0 := fun p hp => by
  obtain ⟨⟨k, e, l⟩, _⟩ := g.1 p hp
  rw [e]
  unfold Ok
  exact ⟨rfl, l⟩
end
section
variable {P : Program} {w : World} {K : PySem.W.Frag} {mg : Str → Option Value} {base : Heap}
theorem scBase : FnScope ["node"] ["node"] (defScope sBase) := ⟨rfl, rfl, rfl, by decide +kernel, rfl, by decide +kernel, by decide +kernel⟩
theorem scLevel : FnScope ["node", "level", "below"] ["node"] (defScope sLevel) := ⟨rfl, rfl, rfl, by decide +kernel, rfl, by decide +kernel, by decide +kernel⟩
def spBase (K : PySem.W.Frag) : Sp := fun vs H Q _ => ∃ v n, vs = [v] ∧ NdV K H v n ∧ ∀ H' v', Same H H' → NdV K H' v' n.base → Q v' H'
def spLevel (K : PySem.W.Frag) : Sp := fun vs H Q _ => ∃ v n l, vs = [v] ∧ NdV K H v n ∧ Ok n l ∧ ∀ H', Same H H' → Q (.int l) H'
theorem ok_base {f g : Addr} {fd gd : FuncData} {k : Nat} (F : Fun K "base_of" "base_of" sBase f fd) (R : Fun K "is_run" "is_run" sIsRun g gd) (gR : mg "is_run" = some (.ref g)) (bR : Binds K gd ["value"] []) (mi : mg "isinstance" = none) (mt : mg "tuple" = none) :
    FnOk P w K mg base CX0 (k + 2) f fd ["node"] (spBase K) := by
  have GR : FnOk P w K mg base CX0 (k + 1) g gd ["value"] (spIsRun K) := ok_isrun R mi mt
  refine F.ok scBase (fun vs H Q E h => ?_) (fun cdv A outer s H vs Q E hr h => ?_)
  · obtain ⟨v, n, rfl, _⟩ := h
    rfl
  · obtain ⟨v, n, rfl, hn, q⟩ := h
    refine ⟨_, pss_cons (ps_if (pt_val (pe_call GR hr (by rfl) gR R.kp bR .nil pass0 (pa_cons (pv 0) pa_nil))) (pss_one (ps_ret (pe_ix ix_tup (pv 0) pe_int (fun _ _ => rfl)))) pss_nil) (pss_one (ps_ret (pv 0))), ?_⟩
    refine ⟨v, rfl, v, n, rfl, hn, fun H1 s1 => ?_⟩
    have hn1 := hn.up (.of s1)
    cases n with
    | run b c =>
      obtain ⟨a, v2, rfl, h1, h2⟩ := hn1.run
      exact ⟨_, rfl, iteT ⟨.ref a, rfl, a, _, 1, v2, rfl, rfl, h1, rfl, q _ _ s1 h2⟩⟩
    | el n => exact ⟨_, rfl, iteF ⟨v, rfl, q _ _ s1 hn1⟩⟩
    | blk ps => exact ⟨_, rfl, iteF ⟨v, rfl, q _ _ s1 hn1⟩⟩
theorem ok_level {f g b c : Addr} {fd gd bd cd : FuncData} {k : Nat} (F : Fun K "level_of" "level_of" sLevel f fd) (C : Fun K "base_of" "base_of" sBase c cd) (gC : mg "base_of" = some (.ref c)) (bC : Binds K cd ["node"] [])
    (R : Fun K "is_run" "is_run" sIsRun g gd) (gR : mg "is_run" = some (.ref g)) (bR : Binds K gd ["value"] []) (B : Fun K "is_block" "is_block" sIsBlk b bd) (gB : mg "is_block" = some (.ref b)) (bB : Binds K bd ["value"] []) (mi : mg "isinstance" = none) (mt : mg "tuple" = none) :
    FnOk P w K mg base CX0 (k + 3) f fd ["node"] (spLevel K) := by
  have GC : FnOk P w K mg base CX0 (k + 2) c cd ["node"] (spBase K) := ok_base C R gR bR mi mt
  have GB : FnOk P w K mg base CX0 (k + 2) b bd ["value"] (spIsBlk K) := ok_isblk B mi mt
  refine F.ok scLevel (fun vs H Q E h => ?_) (fun cdv A outer s H vs Q E hr h => ?_)
  · obtain ⟨v, n, l, rfl, _⟩ := h
    rfl
  · obtain ⟨v, n, l, rfl, hn, ok, q⟩ := h
    refine ⟨_, pss_cons (ps_set (i := 1) scLevel.nd rfl (.inl rfl) pe_int)
      (pss_cons (ps_set (i := 2) scLevel.nd rfl (.inl rfl) (pe_call GC hr (by rfl) gC C.kp bC .nil pass0 (pa_cons (pv 0) pa_nil)))
      (pss_cons (ps_while PassesOwn.never (pt_val (pe_call GB hr (by rfl) gB B.kp bB .nil pass0 (pa_cons (pv 2) pa_nil)))
        (pss_cons (ps_aug (i := 1) scLevel.nd rfl (.inl rfl) pe_int ip_add)
        (pss_one (ps_set (i := 2) scLevel.nd rfl (.inl rfl) (pe_call GC hr (by rfl) gC C.kp bC .nil pass0 (pa_cons (pe_ix ix_tup (pe_ix ix_tup (pv 2) pe_int (fun _ _ => rfl)) pe_int (fun _ _ => rfl)) pa_nil))))))
      (pss_one (ps_ret (pv 1))))), ?_⟩
    refine ⟨v, rfl, v, n, rfl, hn, fun H1 v1 s1 h1 => ?_⟩
    obtain ⟨okb, nrb⟩ := ok.base
    refine ⟨fun m σ H' => ∃ (i : Nat) (u : V) (x : Nd), i + m = l ∧ σ = [some v, some (.int i), some u] ∧ NdV K H' u x ∧ Ok x m ∧ x.isRun = false ∧ Same H H', ⟨l, 0, v1, n.base, Nat.zero_add _, rfl, h1, okb, nrb, s1⟩, ?_⟩
    rintro m σ H2 ⟨i, u, x, im, rfl, k1, k2, k3, s2⟩
    refine ⟨u, rfl, u, x, rfl, k1, fun H3 s3 => ⟨_, rfl, ?_⟩⟩
    have k1' := k1.up (.of s3)
    cases x with
    | run b c => cases k3
    | el e =>
      unfold Ok at k2
      refine iteF ⟨_, rfl, ?_⟩
      have : i = l := by omega
      rw [this]
      exact q _ (s2.trans s3)
    | blk ps =>
      unfold Ok at k2
      obtain ⟨m1, m2, m3, m4, _⟩ := k2
      obtain ⟨a, bb, vs, rfl, t1, t2, t3⟩ := k1'.blk
      obtain ⟨y, hy⟩ := get_of (l := ps) (i := 0) (by omega)
      obtain ⟨z, hz, kz⟩ := t3.at hy
      have oky := m4.mem y (List.mem_of_getElem? hy)
      refine iteT ⟨fun σ' H' => ∃ (u : V) (x : Nd), σ' = [some v, some (.int ((i + 1 : Nat) : Int)), some u] ∧ NdV K H' u x ∧ Ok x (m - 1) ∧ x.isRun = false ∧ Same H H', fun σ' H' hN => ?_, ?_⟩
      · obtain ⟨u', x', j1, j2⟩ := hN
        exact ⟨m - 1, by omega, i + 1, u', x', by omega, j1, j2⟩
      · refine ⟨_, rfl, i, 1, rfl, rfl, .ref a, rfl, a, _, 1, .ref bb, rfl, rfl, t1, rfl, bb, _, 0, z, rfl, rfl, t2, atI_nat (j := 0) hz, z, y, rfl, kz, fun H4 v4 s4 h4 => ⟨v4, y.base, ?_, h4, oky.base.1, oky.base.2, s2.trans (s3.trans s4)⟩⟩
        rw [Int.natCast_add]
        rfl
end
/-! ### is_node -/
section
variable {P : Program} {w : World} {K : PySem.W.Frag} {mg : Str → Option Value} {base : Heap}
theorem scWhole : FnScope ["value"] ["value"] (defScope sWhole) := ⟨rfl, rfl, rfl, by decide +kernel, rfl, by decide +kernel, by decide +kernel⟩
theorem scElement : FnScope ["value"] ["value"] (defScope sElement) := ⟨rfl, rfl, rfl, by decide +kernel, rfl, by decide +kernel, by decide +kernel⟩
theorem scCount : FnScope ["value", "least"] ["value", "least"] (defScope sCount) := ⟨rfl, rfl, rfl, by decide +kernel, rfl, by decide +kernel, by decide +kernel⟩
theorem scIsNode : FnScope ["value"] ["value"] (defScope sIsNode) := ⟨rfl, rfl, rfl, by decide +kernel, rfl, by decide +kernel, by decide +kernel⟩
theorem scParts : FnScope ["values", "value"] ["values"] (defScope sParts) := ⟨rfl, rfl, rfl, by decide +kernel, rfl, by decide +kernel, by decide +kernel⟩
theorem scFit : FnScope ["nodes", "at"] ["nodes"] (defScope sFit) := ⟨rfl, rfl, rfl, by decide +kernel, rfl, by decide +kernel, by decide +kernel⟩
def spWhole : Sp := fun vs H Q _ => ∃ z : Int, vs = [.int z] ∧ Q (.bl true) H
def spElement : Sp := fun vs H Q _ => ∃ z : Int, vs = [.int z] ∧ 0 ≤ z ∧ z ≤ 10 ^ 9 ∧ Q (.bl true) H
def spCount : Sp := fun vs H Q _ => ∃ z l : Int, vs = [.int z, .int l] ∧ l ≤ z ∧ z ≤ 10 ^ 60 ∧ Q (.bl true) H
def spIsNode (K : PySem.W.Frag) (m : Nat) : Sp := fun vs H Q _ => ∃ v n l, vs = [v] ∧ NdV K H v n ∧ Ok n l ∧ l ≤ 20 ∧ ht n < m ∧ ∀ H', Same H H' → Q (.bl true) H'
def spParts (K : PySem.W.Frag) (m : Nat) : Sp := fun vs H Q _ => ∃ a us ns l, vs = [.ref a] ∧ SqT K H a us ∧ NdsV K H us ns ∧ OkAll ns l ∧ Unb ns ∧ 2 ≤ ns.length ∧ ns.length ≤ 3 ∧ l ≤ 20 ∧ (∀ n ∈ ns, ht n < m) ∧ ∀ H', Same H H' → Q (.bl true) H'
def spFit (K : PySem.W.Frag) : Sp := fun vs H Q _ => ∃ a us ns l, vs = [.ref a] ∧ SqT K H a us ∧ NdsV K H us ns ∧ OkAll ns l ∧ Unb ns ∧ ns.length ≤ 3 ∧ l ≤ 20 ∧ ∀ H', Same H H' → Q (.bl true) H'
theorem ok_whole {f : Addr} {fd : FuncData} {k : Nat} (F : Fun K "is_whole" "is_whole" sWhole f fd) (mi : mg "isinstance" = none) (mn : mg "int" = none) (mb : mg "bool" = none) : FnOk P w K mg base CX0 (k + 1) f fd ["value"] spWhole := by
  refine F.ok scWhole (fun vs H Q E h => ?_) (fun cdv A outer s H vs Q E hr h => ?_)
  · obtain ⟨z, rfl, _⟩ := h
    rfl
  · obtain ⟨z, rfl, q⟩ := h
    refine ⟨_, pss_one (ps_ret (pe_and (pe_callB call_isi (by rfl) mi PyProof.Rows.boot_isinstance (pa_cons (pv 0) (pa_cons (pe_bltn (v := .ty "int") (by rfl) mn (by decide +kernel) rfl) pa_nil)))
      (pe_one (pe_not (pe_callB call_isi (by rfl) mi PyProof.Rows.boot_isinstance (pa_cons (pv 0) (pa_cons (pe_bltn (v := .ty "bool") (by rfl) mb (by decide +kernel) rfl) pa_nil))))))), ?_⟩
    exact ⟨_, rfl, _, _, _, _, true, rfl, .ty "int", .base (.int _), kit_ty (by decide +kernel), _, rfl, _, rfl, _, _, _, _, false, rfl, .ty "bool", .base (.int _), kit_ty (by decide +kernel), _, rfl, q⟩
theorem ok_element {f g : Addr} {fd gd : FuncData} {k : Nat} (F : Fun K "is_element" "is_element" sElement f fd) (W : Fun K "is_whole" "is_whole" sWhole g gd) (gW : mg "is_whole" = some (.ref g)) (bW : Binds K gd ["value"] [])
    (mi : mg "isinstance" = none) (mn : mg "int" = none) (mb : mg "bool" = none) : FnOk P w K mg base CX0 (k + 2) f fd ["value"] spElement := by
  have GW : FnOk P w K mg base CX0 (k + 1) g gd ["value"] spWhole := ok_whole W mi mn mb
  refine F.ok scElement (fun vs H Q E h => ?_) (fun cdv A outer s H vs Q E hr h => ?_)
  · obtain ⟨z, rfl, _⟩ := h
    rfl
  · obtain ⟨z, rfl, h1, h2, q⟩ := h
    refine ⟨_, pss_one (ps_ret (pe_and (pe_call GW hr (by rfl) gW W.kp bW .nil pass0 (pa_cons (pv 0) pa_nil)) (pe_one (pe_chain op_le op_le pe_int (pv 0) (pe_op op_pow pe_int pe_int))))), ?_⟩
    refine ⟨_, rfl, z, rfl, _, rfl, _, rfl, 0, z, rfl, rfl, _, rfl, ?_⟩
    rw [decide_eq_true h1]
    refine ⟨10, 9, rfl, rfl, ⟨by decide, by decide, by decide⟩, _, _, rfl, rfl, ?_⟩
    show Q (.bl (decide (z ≤ (10 : Int) ^ (9 : Int).toNat))) H
    rw [decide_eq_true (show z ≤ (10 : Int) ^ (9 : Int).toNat from h2)]
    exact q
theorem ok_count {f g : Addr} {fd gd : FuncData} {k : Nat} (F : Fun K "is_count" "is_count" sCount f fd) (W : Fun K "is_whole" "is_whole" sWhole g gd) (gW : mg "is_whole" = some (.ref g)) (bW : Binds K gd ["value"] [])
    (mi : mg "isinstance" = none) (mn : mg "int" = none) (mb : mg "bool" = none) : FnOk P w K mg base CX0 (k + 2) f fd ["value", "least"] spCount := by
  have GW : FnOk P w K mg base CX0 (k + 1) g gd ["value"] spWhole := ok_whole W mi mn mb
  refine F.ok scCount (fun vs H Q E h => ?_) (fun cdv A outer s H vs Q E hr h => ?_)
  · obtain ⟨z, l, rfl, _⟩ := h
    rfl
  · obtain ⟨z, l, rfl, h1, h2, q⟩ := h
    refine ⟨_, pss_one (ps_ret (pe_and (pe_call GW hr (by rfl) gW W.kp bW .nil pass0 (pa_cons (pv 0) pa_nil)) (pe_one (pe_chain op_le op_le (pv 1) (pv 0) (pe_op op_pow pe_int pe_int))))), ?_⟩
    refine ⟨_, rfl, z, rfl, _, rfl, _, rfl, _, rfl, l, z, rfl, rfl, _, rfl, ?_⟩
    rw [decide_eq_true h1]
    refine ⟨10, 60, rfl, rfl, ⟨by decide, by decide, by decide⟩, _, _, rfl, rfl, ?_⟩
    show Q (.bl (decide (z ≤ (10 : Int) ^ (60 : Int).toNat))) H
    rw [decide_eq_true (show z ≤ (10 : Int) ^ (60 : Int).toNat from h2)]
    exact q
theorem unb_get : ∀ {ns : List Nd} {i : Nat} {x y : Nd}, Unb ns → ns[i]? = some x → ns[i + 1]? = some y → x.base ≠ y.base
  | [], i, x, y, _, h, _ => by simp at h
  | [a], i, x, y, _, h, k => by simp at k
  | a :: b :: r, 0, x, y, u, h, k => by
    have e1 : a = x := by simpa using h
    have e2 : b = y := by simpa using k
    rw [← e1, ← e2]
    exact u.1
  | a :: b :: r, i + 1, x, y, u, h, k => unb_get (ns := b :: r) (i := i) u.2 (by simpa using h) (by simpa using k)
/-- what the names of the defs below is_node hold -/
structure NodeF (K : PySem.W.Frag) (mg : Str → Option Value) (hA hB hC hD hW hL hM hN hO hP : Addr) (eA eB eC eD eW eL eM eN eO eP : FuncData) : Prop where
  A : Fun K "is_run" "is_run" sIsRun hA eA
  B : Fun K "is_block" "is_block" sIsBlk hB eB
  C : Fun K "base_of" "base_of" sBase hC eC
  D : Fun K "level_of" "level_of" sLevel hD eD
  W : Fun K "is_whole" "is_whole" sWhole hW eW
  L : Fun K "is_element" "is_element" sElement hL eL
  M : Fun K "is_count" "is_count" sCount hM eM
  N : Fun K "is_node" "is_node" sIsNode hN eN
  O : Fun K "_can_be_parts" "_can_be_parts" sParts hO eO
  P : Fun K "_fit_together" "_fit_together" sFit hP eP
  gA : mg "is_run" = some (.ref hA)
  gB : mg "is_block" = some (.ref hB)
  gC : mg "base_of" = some (.ref hC)
  gD : mg "level_of" = some (.ref hD)
  gW : mg "is_whole" = some (.ref hW)
  gL : mg "is_element" = some (.ref hL)
  gM : mg "is_count" = some (.ref hM)
  gN : mg "is_node" = some (.ref hN)
  gO : mg "_can_be_parts" = some (.ref hO)
  gP : mg "_fit_together" = some (.ref hP)
  bA : Binds K eA ["value"] []
  bB : Binds K eB ["value"] []
  bC : Binds K eC ["node"] []
  bD : Binds K eD ["node"] []
  bW : Binds K eW ["value"] []
  bL : Binds K eL ["value"] []
  bM : Binds K eM ["value", "least"] []
  bN : Binds K eN ["value"] []
  bO : Binds K eO ["values"] []
  bP : Binds K eP ["nodes"] []
  isinstance : mg "isinstance" = none
  int : mg "int" = none
  bool : mg "bool" = none
  tuple : mg "tuple" = none
  len : mg "len" = none
  range : mg "range" = none
variable {hA hB hC hD hW hL hM hN hO hP : Addr} {eA eB eC eD eW eL eM eN eO eP : FuncData}
theorem ok_fit (X : NodeF K mg hA hB hC hD hW hL hM hN hO hP eA eB eC eD eW eL eM eN eO eP) : FnOk P w K mg base CX0 4 hP eP ["nodes"] (spFit K) := by
  have GC : FnOk P w K mg base CX0 3 hC eC ["node"] (spBase K) := ok_base X.C X.A X.gA X.bA X.isinstance X.tuple
  have GD : FnOk P w K mg base CX0 3 hD eD ["node"] (spLevel K) := ok_level X.D X.C X.gC X.bC X.A X.gA X.bA X.B X.gB X.bB X.isinstance X.tuple
  refine X.P.ok scFit (fun vs H Q E h => ?_) (fun cdv A outer s H vs Q E hr h => ?_)
  · obtain ⟨a, us, ns, l, rfl, _⟩ := h
    rfl
  · obtain ⟨a, us, ns, l, rfl, hT, hN, ok, un, len, l2, q⟩ := h
    refine ⟨_, pss_cons (ps_for PassesOwn.never rfl (pi_range2 (by rfl) X.range (pa_cons pe_int (pa_cons (pe_callB call_len_seq (by rfl) X.len PySem.boot_len (pa_cons (pv 0) pa_nil)) pa_nil))) (pg_name (i := 1) scFit.nd rfl (.inl rfl))
        (pss_one (ps_if (PW.pt (pw_or (pt_cmpR op_ne (pe_call GD hr (by rfl) X.gD X.D.kp X.bD .nil pass0 (pa_cons (pe_ix ix_tup (pv 0) (pe_op op_sub (pv 1) pe_int) (fun _ _ => rfl)) pa_nil)) (pe_call GD hr (by rfl) X.gD X.D.kp X.bD .nil pass0 (pa_cons (pe_ix ix_tup (pv 0) (pv 1) (fun _ _ => rfl)) pa_nil)) (nomark _))
            (pw_or1 (pt_cmpR (op_eqD hr.units) (pe_call GC hr (by rfl) X.gC X.C.kp X.bC .nil pass0 (pa_cons (pe_ix ix_tup (pv 0) (pe_op op_sub (pv 1) pe_int) (fun _ _ => rfl)) pa_nil)) (pe_call GC hr (by rfl) X.gC X.C.kp X.bC .nil pass0 (pa_cons (pe_ix ix_tup (pv 0) (pv 1) (fun _ _ => rfl)) pa_nil)) (nomark _)))))
          (pss_one (ps_ret pe_bl)) pss_nil)))
      (pss_one (ps_ret pe_bl)), ?_⟩
    have hlu := hN.len
    refine ⟨.ref a, rfl, a, us, rfl, .inr hT, 1, _, rfl, ⟨by decide, by decide, by omega, by omega⟩, ?_⟩
    have n0 : (((us.length : Nat) : Int) - 1).toNat = ns.length - 1 := by omega
    refine for_range (fun i σ H' => ∃ y, σ = [some (.ref a), y] ∧ Same H H') ⟨none, rfl, Same.refl H⟩ (fun i σ H' hi hp => ?_) (fun σ H' hp => ?_)
    · obtain ⟨y, rfl, s1⟩ := hp
      rw [n0] at hi
      obtain ⟨x, hx⟩ := get_of (l := ns) (i := i) (by omega)
      obtain ⟨z, hz⟩ := get_of (l := ns) (i := i + 1) (by omega)
      have hT1 := sameT s1 hT
      have hN1 := hN.up (.of (K := K) s1)
      obtain ⟨u, eu, ku⟩ := hN1.at hx
      obtain ⟨v, ev, kv⟩ := hN1.at hz
      have okx := ok.mem x (List.mem_of_getElem? hx)
      have okz := ok.mem z (List.mem_of_getElem? hz)
      have ne := unb_get un hx hz
      refine ⟨.ref a, rfl, _, rfl, _, 1, rfl, rfl, a, us, ((i : Nat) : Int), u, rfl, int_congr (by omega), hT1, atI_nat eu, u, x, l, rfl, ku, okx, fun H2 s2 => ?_⟩
      refine ⟨.ref a, rfl, _, rfl, a, us, ((i + 1 : Nat) : Int), v, rfl, int_congr (by omega), sameT s2 hT1, atI_nat ev, v, z, l, rfl, kv.up (.of s2), okz, fun H3 s3 => ⟨rfl, _, rfl, ?_⟩⟩
      rw [decide_eq_true rfl]
      have s23 := s2.trans s3
      refine ⟨.ref a, rfl, _, rfl, _, 1, rfl, rfl, a, us, ((i : Nat) : Int), u, rfl, int_congr (by omega), sameT s23 hT1, atI_nat eu, u, x, rfl, ku.up (.of s23), fun H4 u4 s4 k4 => ?_⟩
      have s24 := s23.trans s4
      refine ⟨.ref a, rfl, _, rfl, a, us, ((i + 1 : Nat) : Int), v, rfl, int_congr (by omega), sameT s24 hT1, atI_nat ev, v, z, rfl, kv.up (.of s24), fun H5 v5 s5 k5 => ⟨_, _, k4.up (.of s5), k5, shaped_dat okx.base.1 l2, shaped_dat okz.base.1 l2, _, rfl, ?_⟩⟩
      rw [eqv_no ne]
      exact iteF ⟨_, rfl, s1.trans (s24.trans s5)⟩
    · obtain ⟨y, rfl, s1⟩ := hp
      exact q _ s1
theorem ok_parts (X : NodeF K mg hA hB hC hD hW hL hM hN hO hP eA eB eC eD eW eL eM eN eO eP) {m k : Nat} (hk : 4 ≤ k) (GN : FnOk P w K mg base CX0 k hN eN ["value"] (spIsNode K m)) : FnOk P w K mg base CX0 (k + 1) hO eO ["values"] (spParts K m) := by
  have GP : FnOk P w K mg base CX0 4 hP eP ["nodes"] (spFit K) := ok_fit X
  refine X.O.ok scParts (fun vs H Q E h => ?_) (fun cdv A outer s H vs Q E hr h => ?_)
  · obtain ⟨a, us, ns, l, rfl, _⟩ := h
    rfl
  · obtain ⟨a, us, ns, l, rfl, hT, hN, ok, un, l1, l3, l2, hh, q⟩ := h
    have r4 := hr.mono (j := 4) (by omega)
    refine ⟨_, pss_cons (ps_if (pt_not (pt_chain op_le op_le pe_int (pe_callB call_len_seq (by rfl) X.len PySem.boot_len (pa_cons (pv 0) pa_nil)) pe_int)) (pss_one (ps_ret pe_bl)) pss_nil)
      (pss_cons (ps_for PassesOwn.never rfl (pi_tup (pv 0)) (pg_name (i := 1) scParts.nd rfl (.inl rfl))
        (pss_one (ps_if (pt_not (pt_val (pe_call GN hr (by rfl) X.gN X.N.kp X.bN .nil pass0 (pa_cons (pv 1) pa_nil)))) (pss_one (ps_ret pe_bl)) pss_nil)))
      (pss_one (ps_ret (pe_call GP r4 (by rfl) X.gP X.P.kp X.bP .nil pass0 (pa_cons (pv 0) pa_nil))))), ?_⟩
    have hlu := hN.len
    refine ⟨.ref a, rfl, a, us, rfl, .inr hT, 2, _, rfl, rfl, _, rfl, ?_⟩
    rw [decide_eq_true (show (2 : Int) ≤ ((us.length : Nat) : Int) by omega)]
    refine ⟨_, 3, rfl, rfl, _, rfl, ?_⟩
    rw [decide_eq_true (show ((us.length : Nat) : Int) ≤ 3 by omega)]
    refine iteF ?_
    refine ⟨.ref a, rfl, a, rfl, ⟨us, hT⟩, ?_⟩
    refine for_tup (xs := us) (fun i σ H' => ∃ y, σ = [some (.ref a), y] ∧ Same H H') ⟨none, rfl, Same.refl H⟩ (fun i σ H' _ hp => ?_) (fun i u σ H' hu hp => ?_) (fun σ H' hp => ?_)
    · obtain ⟨_, _, s1⟩ := hp
      exact sameT s1 hT
    · obtain ⟨y, rfl, s1⟩ := hp
      obtain ⟨x, hx, kx⟩ := (hN.up (.of (K := K) s1)).get hu
      have hmem := List.mem_of_getElem? hx
      exact ⟨u, rfl, u, x, l, rfl, kx, ok.mem x hmem, l2, hh x hmem, fun H2 s2 => ⟨_, rfl, iteF ⟨_, rfl, s1.trans s2⟩⟩⟩
    · obtain ⟨y, rfl, s1⟩ := hp
      exact ⟨.ref a, rfl, a, us, ns, l, rfl, sameT s1 hT, hN.up (.of s1), ok, un, l3, l2, fun H2 s2 => q _ (s1.trans s2)⟩
theorem ok_isnode (X : NodeF K mg hA hB hC hD hW hL hM hN hO hP eA eB eC eD eW eL eM eN eO eP) : ∀ m : Nat, FnOk P w K mg base CX0 (2 * m + 4) hN eN ["value"] (spIsNode K m)
  | 0 => ⟨fun vs H Q E h => by obtain ⟨v, n, l, _, _, _, _, h, _⟩ := h; exact absurd h (Nat.not_lt_zero _), fun A outer s H args us vs Q E _ _ _ _ h => by obtain ⟨v, n, l, _, _, _, _, h, _⟩ := h; exact absurd h (Nat.not_lt_zero _)⟩
  | m + 1 => by
    have GN : FnOk P w K mg base CX0 (2 * m + 4) hN eN ["value"] (spIsNode K m) := ok_isnode X m
    have GO : FnOk P w K mg base CX0 (2 * m + 5) hO eO ["values"] (spParts K m) := ok_parts X (by omega) GN
    have GA : FnOk P w K mg base CX0 1 hA eA ["value"] (spIsRun K) := ok_isrun X.A X.isinstance X.tuple
    have GB : FnOk P w K mg base CX0 1 hB eB ["value"] (spIsBlk K) := ok_isblk X.B X.isinstance X.tuple
    have GL : FnOk P w K mg base CX0 2 hL eL ["value"] spElement := ok_element X.L X.W X.gW X.bW X.isinstance X.int X.bool
    have GM : FnOk P w K mg base CX0 2 hM eM ["value", "least"] spCount := ok_count X.M X.W X.gW X.bW X.isinstance X.int X.bool
    refine X.N.ok (k := 2 * m + 5) scIsNode (fun vs H Q E h => ?_) (fun cdv A outer s H vs Q E hr h => ?_)
    · obtain ⟨v, n, l, rfl, _⟩ := h
      rfl
    · obtain ⟨v, n, l, rfl, hn, ok, l2, hh, q⟩ := h
      have r1 := hr.mono (j := 1) (by omega)
      have r2 := hr.mono (j := 2) (by omega)
      have rN := hr.mono (j := 2 * m + 4) (by omega)
      refine ⟨_, pss_cons (ps_if (pt_val (pe_call GA r1 (by rfl) X.gA X.A.kp X.bA .nil pass0 (pa_cons (pv 0) pa_nil)))
            (pss_one (ps_ret (pe_and (pe_cmpR op_eq (pe_callB call_len_seq (by rfl) X.len PySem.boot_len (pa_cons (pv 0) pa_nil)) pe_int (nomark _))
              (pe_and (pe_call GM r2 (by rfl) X.gM X.M.kp X.bM .nil pass0 (pa_cons (pe_ix ix_tup (pv 0) pe_int (fun _ _ => rfl)) (pa_cons pe_int pa_nil)))
              (pe_and (pe_not (pe_call GA r1 (by rfl) X.gA X.A.kp X.bA .nil pass0 (pa_cons (pe_ix ix_tup (pv 0) pe_int (fun _ _ => rfl)) pa_nil)))
              (pe_one (pe_call GN rN (by rfl) X.gN X.N.kp X.bN .nil pass0 (pa_cons (pe_ix ix_tup (pv 0) pe_int (fun _ _ => rfl)) pa_nil)))))))) pss_nil)
        (pss_cons (ps_if (pt_val (pe_call GB r1 (by rfl) X.gB X.B.kp X.bB .nil pass0 (pa_cons (pv 0) pa_nil)))
            (pss_one (ps_ret (pe_and (pe_cmpR op_eq (pe_callB call_len_seq (by rfl) X.len PySem.boot_len (pa_cons (pv 0) pa_nil)) pe_int (nomark _))
              (pe_and (pe_callB call_isi (by rfl) X.isinstance PyProof.Rows.boot_isinstance (pa_cons (pe_ix ix_tup (pv 0) pe_int (fun _ _ => rfl)) (pa_cons (pe_bltn (v := .ty "tuple") (by rfl) X.tuple PyProof.Rows.boot_tuple rfl) pa_nil)))
              (pe_one (pe_call GO hr (by rfl) X.gO X.O.kp X.bO .nil pass0 (pa_cons (pe_ix ix_tup (pv 0) pe_int (fun _ _ => rfl)) pa_nil))))))) pss_nil)
        (pss_one (ps_ret (pe_call GL r2 (by rfl) X.gL X.L.kp X.bL .nil pass0 (pa_cons (pv 0) pa_nil))))), ?_⟩
      refine ⟨v, rfl, v, n, rfl, hn, fun H1 s1 => ?_⟩
      have hn1 := hn.up (.of (K := K) s1)
      cases n with
      | run b c =>
        obtain ⟨a, v2, rfl, h1, h2⟩ := hn1.run
        unfold Ok at ok
        refine ⟨_, rfl, iteT ⟨.ref a, rfl, a, _, rfl, .inr h1, rfl, _, rfl, ?_⟩⟩
        refine ⟨.ref a, rfl, a, _, 2, .int c, rfl, rfl, h1, rfl, c, 2, rfl, by omega, ?_, _, rfl, ?_⟩
        · have := ok.2.1
          exact_mod_cast this
        refine ⟨.ref a, rfl, a, _, 1, v2, rfl, rfl, h1, rfl, v2, b, rfl, h2, fun H2 s2 => ⟨_, rfl, ?_⟩⟩
        rw [ok.2.2.1]
        refine ⟨_, rfl, ?_⟩
        refine ⟨.ref a, rfl, a, _, 1, v2, rfl, rfl, sameT s2 h1, rfl, v2, b, l, rfl, h2.up (.of s2), ok.2.2.2, l2, ?_, fun H3 s3 => q _ (s1.trans (s2.trans s3))⟩
        unfold ht at hh
        omega
      | el e =>
        have ev := hn1.el
        subst ev
        refine ⟨_, rfl, iteF ⟨_, rfl, _, .el e, rfl, hn1, fun H2 s2 => ⟨_, rfl, iteF ⟨_, rfl, e, rfl, by omega, ?_, q _ (s1.trans s2)⟩⟩⟩⟩
        unfold Ok at ok
        have := ok.2
        omega
      | blk ps =>
        refine ⟨_, rfl, iteF ⟨v, rfl, v, .blk ps, rfl, hn1, fun H2 s2 => ⟨_, rfl, iteT ?_⟩⟩⟩
        obtain ⟨a, bb, vs, rfl, t1, t2, t3⟩ := (hn1.up (.of (K := K) s2)).blk
        unfold Ok at ok
        refine ⟨.ref a, rfl, a, _, rfl, .inr t1, rfl, _, rfl, ?_⟩
        refine ⟨.ref a, rfl, a, _, 1, .ref bb, rfl, rfl, t1, rfl, _, _, _, _, true, rfl, .ty "tuple", Loc.SqT.ty t2, kit_ty (by decide +kernel), _, rfl, ?_⟩
        refine ⟨.ref a, rfl, a, _, 1, .ref bb, rfl, rfl, t1, rfl, bb, vs, ps, l - 1, rfl, t2, t3, ok.2.2.2.1, ok.2.2.2.2, ok.2.1, ok.2.2.1, by omega, fun n hn => ?_, fun H3 s3 => q _ (s1.trans (s2.trans s3))⟩
        have := hts_mem hn
        unfold ht at hh
        omega
end
/-! ### is_runs, of runs -/
section
variable {P : Program} {w : World} {K : PySem.W.Frag} {mg : Str → Option Value} {base : Heap}
theorem scIsPair : FnScope ["value"] ["value"] (defScope sIsPair) := ⟨rfl, rfl, rfl, by decide +kernel, rfl, by decide +kernel, by decide +kernel⟩
def spPair (K : PySem.W.Frag) : Sp := fun vs H Q _ => ∃ (a : Addr) (k c : Nat), vs = [.ref a] ∧ SqT K H a [.int (k : Nat), .int (c : Nat)] ∧ k ≤ 10 ^ 9 ∧ 1 ≤ c ∧ c ≤ 10 ^ 60 ∧ Q (.bl true) H
theorem ok_pair (X : Facts K mg) : FnOk P w K mg base CX0 3 X.uis_pair X.vis_pair ["value"] (spPair K) := by
  have GL : FnOk P w K mg base CX0 2 X.uis_element X.vis_element ["value"] spElement := ok_element X.fis_element X.fis_whole X.gis_whole X.bis_whole X.isinstance X.int X.bool
  have GM : FnOk P w K mg base CX0 2 X.uis_count X.vis_count ["value", "least"] spCount := ok_count X.fis_count X.fis_whole X.gis_whole X.bis_whole X.isinstance X.int X.bool
  refine X.fis_pair.ok scIsPair (fun vs H Q E h => ?_) (fun cdv A outer s H vs Q E hr h => ?_)
  · obtain ⟨a, k, c, rfl, _⟩ := h
    rfl
  · obtain ⟨a, k, c, rfl, hT, hk, hc1, hc, q⟩ := h
    refine ⟨_, pss_one (ps_ret (pe_and (pe_callB call_isi (by rfl) X.isinstance PyProof.Rows.boot_isinstance (pa_cons (pv 0) (pa_cons (pe_bltn (v := .ty "tuple") (by rfl) X.tuple PyProof.Rows.boot_tuple rfl) pa_nil)))
      (pe_and (pe_cmpR op_eq (pe_callB call_len_seq (by rfl) X.len PySem.boot_len (pa_cons (pv 0) pa_nil)) pe_int (nomark _))
      (pe_and (pe_call GL hr (by rfl) X.gis_element X.fis_element.kp X.bis_element .nil pass0 (pa_cons (pe_ix ix_tup (pv 0) pe_int (fun _ _ => rfl)) pa_nil))
      (pe_one (pe_call GM hr (by rfl) X.gis_count X.fis_count.kp X.bis_count .nil pass0 (pa_cons (pe_ix ix_tup (pv 0) pe_int (fun _ _ => rfl)) (pa_cons pe_int pa_nil)))))))), ?_⟩
    refine ⟨_, rfl, _, _, _, _, true, rfl, .ty "tuple", Loc.SqT.ty hT, kit_ty (by decide +kernel), _, rfl, ?_⟩
    refine ⟨.ref a, rfl, a, _, rfl, .inr hT, rfl, _, rfl, ?_⟩
    refine ⟨.ref a, rfl, a, _, 0, _, rfl, rfl, hT, rfl, _, rfl, by omega, by omega, _, rfl, ?_⟩
    exact ⟨.ref a, rfl, a, _, 1, _, rfl, rfl, hT, rfl, _, _, rfl, by omega, by omega, q⟩
theorem scIsRuns : FnScope ["value", "at", "pair"] ["value"] (defScope sIsRuns) := ⟨rfl, rfl, rfl, by decide +kernel, rfl, by decide +kernel, by decide +kernel⟩
def spIsRuns (K : PySem.W.Frag) : Sp := fun vs H Q _ => ∃ (a : Addr) (ws : List V) (gs : List (Nd × Nat)), vs = [.ref a] ∧ SqT K H a ws ∧ PrsV K H ws gs ∧ Giv gs ∧ gs.length ≤ 300 ∧ ∀ H', Same H H' → Q (.bl true) H'
theorem ok_isruns (X : Facts K mg) : FnOk P w K mg base CX0 4 X.uis_runs X.vis_runs ["value"] (spIsRuns K) := by
  have GP := ok_pair (P := P) (w := w) (base := base) X
  refine X.fis_runs.ok scIsRuns (fun vs H Q E h => ?_) (fun cdv A outer s H vs Q E hr h => ?_)
  · obtain ⟨a, ws, gs, rfl, _⟩ := h
    rfl
  · obtain ⟨a, ws, gs, rfl, hT, kP, giv, l300, q⟩ := h
    have lw := PrsV.len kP
    refine ⟨_, pss_cons (ps_if (PW.pt (pw_or (pt_not (pt_val (pe_callB call_isi (by rfl) X.isinstance PyProof.Rows.boot_isinstance (pa_cons (pv 0) (pa_cons (pe_bltn (v := .ty "tuple") (by rfl) X.tuple PyProof.Rows.boot_tuple rfl) pa_nil)))))
          (pw_or1 (pt_cmpR op_gt (pe_callB call_len_seq (by rfl) X.len PySem.boot_len (pa_cons (pv 0) pa_nil)) (pe_glob (v := .int 300) (by rfl) X.MOST_RUNS ⟨_, rfl⟩) (nomark _))))) (pss_one (ps_ret pe_bl)) pss_nil)
      (pss_cons (ps_for PassesOwn.never rfl (pi_enumT (by rfl) X.enumerate (pa_cons (pv 0) pa_nil)) (pg_tup rfl (pgs_cons (pg_name (i := 1) scIsRuns.nd rfl (.inl rfl)) (pgs_cons (pg_name (i := 2) scIsRuns.nd rfl (.inl rfl)) pgs_nil)))
        (pss_cons (ps_if (pt_not (pt_val (pe_call GP hr (by rfl) X.gis_pair X.fis_pair.kp X.bis_pair .nil pass0 (pa_cons (pv 2) pa_nil)))) (pss_one (ps_ret pe_bl)) pss_nil)
        (pss_one (ps_if (PW.pt (pw_and (pt_cmpR op_gt (pv 1) pe_int (nomark _)) (pw_and1 (pt_cmpR op_eq (pe_ix ix_tup (pe_ix ix_tup (pv 0) (pe_op op_sub (pv 1) pe_int) (fun _ _ => rfl)) pe_int (fun _ _ => rfl)) (pe_ix ix_tup (pv 2) pe_int (fun _ _ => rfl)) (nomark _)))))
          (pss_one (ps_ret pe_bl)) pss_nil))))
      (pss_one (ps_ret pe_bl))), ?_⟩
    refine ⟨_, rfl, _, _, _, _, true, rfl, .ty "tuple", Loc.SqT.ty hT, kit_ty (by decide +kernel), _, rfl, ?_⟩
    refine ⟨.ref a, rfl, a, ws, rfl, .inr hT, _, _, rfl, rfl, _, rfl, ?_⟩
    rw [decide_eq_false (show ¬ (300 : Int) < ((ws.length : Nat) : Int) by omega)]
    refine iteF ⟨.ref a, rfl, a, ws, rfl, hT, ?_⟩
    refine for_enumT (xs := ws) (fun i σ H' => ∃ y1 y2, σ = [some (.ref a), y1, y2] ∧ Same H H') ⟨none, none, rfl, Same.refl H⟩ (fun i σ H' hp => ?_) (fun i x T σ H1 hx hp nT => ?_) (fun i σ H' hp _ => ?_)
    · obtain ⟨_, _, _, s1⟩ := hp
      exact sameT s1 hT
    · obtain ⟨y1, y2, rfl, s1⟩ := hp
      obtain ⟨pr, ra, v, hpi, rfl, t1, t2⟩ := (PrsV.up (.of s1) kP).get hx
      obtain ⟨⟨k, ek, hk⟩, c1, c2⟩ := giv.1 pr (List.mem_of_getElem? hpi)
      rw [ek] at t2
      have ev := t2.el
      subst ev
      have sT := sameN (o := .tup [.int (i : Nat), .ref ra]) nT
      have s2 := s1.trans sT
      have t1' := sameT sT t1
      refine ⟨T, _, rfl, .inl (.inl upd_same), rfl, _, _, rfl, _, [], rfl, rfl, ?_⟩
      refine ⟨.ref ra, rfl, ra, k, pr.2, rfl, t1', hk, c1, Nat.le_trans c2 (by decide), _, rfl, iteF ?_⟩
      refine ⟨_, rfl, _, _, rfl, rfl, _, rfl, ?_⟩
      by_cases z : i = 0
      · subst z
        rw [decide_eq_false (show ¬ (0 : Int) < ((0 : Nat) : Int) by omega)]
        exact iteF ⟨_, _, rfl, s2⟩
      · rw [decide_eq_true (show (0 : Int) < ((i : Nat) : Int) by omega)]
        have il := (List.getElem?_eq_some_iff.mp hpi).1
        obtain ⟨j, rfl⟩ : ∃ j, i = j + 1 := ⟨i - 1, by omega⟩
        obtain ⟨x0, hx0⟩ := get_of (l := ws) (i := j) (by omega)
        obtain ⟨pr0, ra0, v0, hpi0, rfl, u1, u2⟩ := (PrsV.up (.of s2) kP).get hx0
        obtain ⟨⟨k0, ek0, _⟩, _⟩ := giv.1 pr0 (List.mem_of_getElem? hpi0)
        rw [ek0] at u2
        have ev := u2.el
        subst ev
        have ne := giv.2 j pr0 pr hpi0 hpi
        rw [ek, ek0] at ne
        refine iteT ⟨.ref a, rfl, _, rfl, _, _, rfl, rfl, a, ws, j, .ref ra0, rfl, ?_, sameT s2 hT, atI_nat hx0, ra0, _, 0, _, rfl, rfl, u1, rfl, .ref ra, rfl, ra, _, 0, _, rfl, rfl, t1', rfl, rfl, _, rfl, ?_⟩
        · exact int_congr (by omega)
        rw [decide_eq_false (fun h => ne (by have := V.int.inj h; congr 1; omega))]
        exact iteF ⟨_, _, rfl, s2⟩
    · obtain ⟨y1, y2, rfl, s1⟩ := hp
      exact q H' s1
end
/-! ### is_tree, of trees -/
section
variable {P : Program} {w : World} {K : PySem.W.Frag} {mg : Str → Option Value} {base : Heap}
theorem isnode_of (X : Facts K mg) : ∀ m : Nat, FnOk P w K mg base CX0 (2 * m + 4) X.uis_node X.vis_node ["value"] (spIsNode K m) := ok_isnode
  { A := X.fis_run, B := X.fis_block, C := X.fbase_of, D := X.flevel_of, W := X.fis_whole, L := X.fis_element, M := X.fis_count, N := X.fis_node, O := X.fcan_be_parts, P := X.ffit_together, gA := X.gis_run, gB := X.gis_block, gC := X.gbase_of, gD := X.glevel_of, gW := X.gis_whole, gL := X.gis_element, gM := X.gis_count, gN := X.gis_node, gO := X.gcan_be_parts, gP := X.gfit_together,
    bA := X.bis_run, bB := X.bis_block, bC := X.bbase_of, bD := X.blevel_of, bW := X.bis_whole, bL := X.bis_element, bM := X.bis_count, bN := X.bis_node, bO := X.bcan_be_parts, bP := X.bfit_together, isinstance := X.isinstance, int := X.int, bool := X.bool, len := X.len, tuple := X.tuple, range := X.range }
theorem scIsTree : FnScope ["value", "runs"] ["value"] (defScope sIsTree) := ⟨rfl, rfl, rfl, by decide +kernel, rfl, by decide +kernel, by decide +kernel⟩
def spIsTree (K : PySem.W.Frag) : Sp := fun vs H Q _ => ∃ v gs, vs = [v] ∧ TreeX K H v gs ∧ Giv gs ∧ gs.length ≤ 300 ∧ ∀ H', Same H H' → Q (.bl true) H'
theorem ok_istree (X : Facts K mg) : FnOk P w K mg base CX0 41 X.uis_tree X.vis_tree ["value"] (spIsTree K) := by
  have GN : FnOk P w K mg base CX0 40 X.uis_node X.vis_node ["value"] (spIsNode K 18) := isnode_of X 18
  have GC := cnt_tree (P := P) (w := w) (base := base) X
  have GP := ok_pairs (P := P) (w := w) (base := base) X.fpairs_of X.gpairs_of X.bpairs_of X.fis_run X.gis_run X.bis_run X.fis_block X.gis_block X.bis_block X.isinstance X.tuple 18
  have GR := ok_isruns (P := P) (w := w) (base := base) X
  have GT := base_treeX (P := P) (w := w) (base := base) X
  refine X.fis_tree.ok scIsTree (fun vs H Q E h => ?_) (fun cdv A outer s H vs Q E hr h => ?_)
  · obtain ⟨v, gs, rfl, _⟩ := h
    rfl
  · obtain ⟨v, gs, rfl, hT, giv, l300, q⟩ := h
    have r19 := hr.mono (j := 19) (by omega)
    have r4 := hr.mono (j := 4) (by omega)
    have r25 := hr.mono (j := 25) (by omega)
    refine ⟨_, pss_cons (ps_if (pt_cmpR op_isN (pv 0) pe_non (nomark _)) (pss_one (ps_ret pe_bl)) pss_nil)
      (pss_cons (ps_if (PW.pt (pw_or (pt_not (pt_val (pe_call GN hr (by rfl) X.gis_node X.fis_node.kp X.bis_node .nil pass0 (pa_cons (pv 0) pa_nil))))
          (pw_or1 (pt_cmpR op_gt (pe_call GC r19 (by rfl) X.grun_count X.frun_count.kp X.brun_count .nil pass0 (pa_cons (pv 0) pa_nil)) (pe_glob (v := .int 300) (by rfl) X.MOST_RUNS ⟨_, rfl⟩) (nomark _))))) (pss_one (ps_ret pe_bl)) pss_nil)
      (pss_cons (ps_set (i := 1) scIsTree.nd rfl (.inl rfl) (pe_call GP r19 (by rfl) X.gpairs_of X.fpairs_of.kp X.bpairs_of .nil pass0 (pa_cons (pv 0) pa_nil)))
      (pss_one (ps_ret (pe_and (pe_call GR r4 (by rfl) X.gis_runs X.fis_runs.kp X.bis_runs .nil pass0 (pa_cons (pv 1) pa_nil))
        (pe_one (pe_cmpR (op_eqD hr.units) (pe_call GT r25 (by rfl) X.gtree_of X.ftree_of.kp X.btree_of .nil pass0 (pa_cons (pv 1) pa_nil)) (pv 0) (nomark _)))))))), ?_⟩
    rcases hT with ⟨gz, rfl⟩ | ⟨gne, n, l, hn, okn, l8, htn, pn, en, top⟩
    · exact ⟨.non, rfl, rfl, _, rfl, iteT (q H (Same.refl H))⟩
    · refine ⟨v, rfl, rfl, _, rfl, ?_⟩
      rw [decide_eq_false (nd_some hn)]
      have hX : TreeX K H v gs := .inr ⟨gne, n, l, hn, okn, l8, htn, pn, en, top⟩
      refine iteF ⟨v, rfl, v, n, l, rfl, hn, okn, by omega, htn, fun H1 s1 => ⟨_, rfl, iteF ?_⟩⟩
      refine ⟨v, rfl, v, gs, rfl, (hX.up (.of s1)).weak, l300, fun H2 s2 => ⟨_, _, rfl, rfl, _, rfl, ?_⟩⟩
      rw [decide_eq_false (show ¬ (300 : Int) < ((gs.length : Nat) : Int) by omega)]
      have s12 := s1.trans s2
      refine iteF ⟨v, rfl, v, n, l, rfl, hn.up (.of s12), okn, by rw [pn]; omega, htn, fun H3 p ws s3 hp kP => ?_⟩
      rw [pn] at kP
      have s13 := s12.trans s3
      refine ⟨.ref p, rfl, p, ws, gs, rfl, hp, kP, giv, l300, fun H4 s4 => ⟨_, rfl, iteT ?_⟩⟩
      have s14 := s13.trans s4
      refine ⟨.ref p, rfl, p, ws, gs, rfl, sameT s4 hp, PrsV.up (.of s4) kP, giv, l300, fun H5 u s5 hU => ?_⟩
      have s15 := s14.trans s5
      rcases (hX.up (.of s15)).one hU with ⟨z, _⟩ | ⟨_, n2, l2, k1, k2, k3, k4, _⟩
      · exact absurd z gne
      · refine ⟨v, rfl, _, _, k2, k1, shaped_dat k3 (by omega), shaped_dat k3 (by omega), ?_⟩
        rw [eqv_yes rfl]
        exact q _ s15
end
end C62.T

set_option Elab.async false
set_option linter.all false
set_option maxRecDepth 100000
namespace C62.T
open PySem PySem.Spec PyProof.Rows L2 Loc RZ
/-! ### runs as lists of their elements -/
def xp : List (Nd × Nat) → List Nd
  | [] => []
  | p :: r => List.replicate p.2 p.1 ++ xp r
theorem xp_app : ∀ (a b : List (Nd × Nat)), xp (a ++ b) = xp a ++ xp b
  | [], b => rfl
  | p :: r, b => by
    show xp (p :: (r ++ b)) = _
    rw [xp, xp, xp_app r b, List.append_assoc]
theorem xp_one (p : Nd × Nat) : xp [p] = List.replicate p.2 p.1 := by rw [xp, xp, List.append_nil]
theorem xp_len : ∀ gs : List (Nd × Nat), (xp gs).length = (gs.map (·.2)).sum
  | [] => rfl
  | p :: r => by rw [xp, List.length_append, List.length_replicate, xp_len r, List.map_cons, List.sum_cons]
def Rd (gs : List (Nd × Nat)) : Prop := (∀ p ∈ gs, 1 ≤ p.2) ∧ ∀ (i : Nat) p q, gs[i]? = some p → gs[i + 1]? = some q → p.1 ≠ q.1
theorem Rd.init {gs hs : List (Nd × Nat)} (h : Rd (gs ++ hs)) : Rd gs := ⟨fun p hp => h.1 p (List.mem_append_left _ hp), fun i p q hp hq => by
  have l2 : i + 1 < gs.length := (List.getElem?_eq_some_iff.mp hq).1
  exact h.2 i p q (by rw [List.getElem?_append_left (by omega)]; exact hp) (by rw [List.getElem?_append_left l2]; exact hq)⟩
theorem xp_last {gs : List (Nd × Nat)} {p : Nd × Nat} (h : 1 ≤ p.2) : (xp (gs ++ [p])).getLast? = some p.1 := by
  rw [xp_app, xp_one]
  obtain ⟨k, e⟩ : ∃ k, p.2 = k + 1 := ⟨p.2 - 1, by omega⟩
  rw [e, List.replicate_succ', ← List.append_assoc, List.getLast?_append]
  simp
theorem grp_xp : ∀ (k : Nat) (gs : List (Nd × Nat)), gs.length = k → Rd gs → grp (xp gs) = gs
  | 0, gs, e, _ => by
    rw [List.eq_nil_of_length_eq_zero e]
    rfl
  | k + 1, gs, e, h => by
    rcases List.eq_nil_or_concat gs with rfl | ⟨r, ⟨a, c⟩, rfl⟩
    · simp at e
    · rw [List.concat_eq_append] at *
      have c1 : 1 ≤ c := h.1 (a, c) (by simp)
      obtain ⟨j, rfl⟩ : ∃ j, c = j + 1 := ⟨c - 1, by omega⟩
      rw [xp_app, xp_one, grp_rep, grp_xp k r (by simpa using e) h.init]
      rcases List.eq_nil_or_concat r with rfl | ⟨r', p, rfl⟩
      · simp [xp]
      · rw [List.concat_eq_append] at *
        rw [xp_last (h.init.1 p (by simp))]
        intro z
        refine h.2 r'.length p (a, j + 1) ?_ ?_ (Option.some.inj z)
        · rw [List.getElem?_append_left (by simp), List.getElem?_append_right (Nat.le_refl _)]
          simp
        · rw [List.getElem?_append_right (by simp)]
          simp
theorem xp_stepG (acc : List (Nd × Nat)) (n : Nd) : xp (stepG acc n) = xp acc ++ [n] := by
  rcases List.eq_nil_or_concat acc with rfl | ⟨r, ⟨m, c⟩, rfl⟩
  · rw [stepG_ne (fun m c hm => by cases hm)]
    simp [xp]
  · rw [List.concat_eq_append]
    by_cases e : m = n
    · subst e
      rw [stepG_eq, xp_app, xp_app, xp_one, xp_one, List.append_assoc]
      show xp r ++ List.replicate (c + 1) m = _
      rw [List.replicate_succ']
    · rw [stepG_ne (fun m' c' hm => by
        rw [List.getLast?_append] at hm
        have : m = m' ∧ c = c' := by simpa using hm
        rw [← this.1]
        exact e), xp_app, xp_one]
      rfl
theorem xp_grp (ns : List Nd) : xp (grp ns) = ns := by
  suffices h : ∀ (k : Nat) (ns : List Nd), ns.length = k → xp (grp ns) = ns from h _ ns rfl
  intro k
  induction k with
  | zero =>
    intro ns e
    rw [List.eq_nil_of_length_eq_zero e]
    rfl
  | succ k ih =>
    intro ns e
    rcases List.eq_nil_or_concat ns with rfl | ⟨r, n, rfl⟩
    · simp at e
    · rw [List.concat_eq_append] at *
      rw [grp_app, xp_stepG, ih r (by simpa using e)]
theorem Giv.rd {gs : List (Nd × Nat)} (h : Giv gs) : Rd gs := ⟨fun p hp => (h.1 p hp).2.1, h.2⟩
theorem rd_grp (ns : List Nd) : Rd (grp ns) := ⟨fun p hp => (grp_foot ns p hp).2.1, grp_unl _ ns rfl⟩
theorem rd_one {gs hs : List (Nd × Nat)} (h : Rd gs) (k : Rd hs) (e : xp gs = xp hs) : gs = hs := by
  rw [← grp_xp _ gs rfl h, e, grp_xp _ hs rfl k]
theorem xp_mem : ∀ {gs : List (Nd × Nat)} {n : Nd}, n ∈ xp gs → ∃ p ∈ gs, p.1 = n
  | p :: r, n, h => by
    rw [xp] at h
    rcases List.mem_append.mp h with h | h
    · exact ⟨p, List.mem_cons_self, (List.eq_of_mem_replicate h).symm⟩
    · obtain ⟨q, hq, e⟩ := xp_mem h
      exact ⟨q, List.mem_cons_of_mem _ hq, e⟩
theorem mem_xp : ∀ {gs : List (Nd × Nat)} {p : Nd × Nat}, p ∈ gs → 1 ≤ p.2 → p.1 ∈ xp gs
  | q :: r, p, h, l => by
    rw [xp]
    rcases List.mem_cons.mp h with rfl | h
    · exact List.mem_append_left _ (by rw [List.mem_replicate]; exact ⟨by omega, rfl⟩)
    · exact List.mem_append_right _ (mem_xp h l)
/-! ### melting -/
open Classical in
noncomputable def stepM (acc : List (Nd × Nat)) (p : Nd × Nat) : List (Nd × Nat) :=
  match acc.getLast? with
  | some (m, c) => if m = p.1 then acc.dropLast ++ [(m, c + p.2)] else acc ++ [p]
  | none => acc ++ [p]
noncomputable def melt (gs : List (Nd × Nat)) : List (Nd × Nat) := gs.foldl stepM []
theorem melt_app (gs : List (Nd × Nat)) (p : Nd × Nat) : melt (gs ++ [p]) = stepM (melt gs) p := by
  unfold melt
  rw [List.foldl_append]
  rfl
theorem stepM_eq {r : List (Nd × Nat)} {m : Nd} {c : Nat} {p : Nd × Nat} (h : m = p.1) : stepM (r ++ [(m, c)]) p = r ++ [(m, c + p.2)] := by
  unfold stepM
  rw [List.getLast?_append]
  simp [h]
theorem stepM_ne {acc : List (Nd × Nat)} {p : Nd × Nat} (h : ∀ m c, acc.getLast? = some (m, c) → m ≠ p.1) : stepM acc p = acc ++ [p] := by
  unfold stepM
  split
  · rename_i m c e
    rw [if_neg (h m c e)]
  · rfl
theorem last_ne {r : List (Nd × Nat)} {m : Nd} {c : Nat} {n : Nd} (e : m ≠ n) : ∀ m' c', (r ++ [(m, c)]).getLast? = some (m', c') → m' ≠ n := fun m' c' hm => by
  rw [List.getLast?_append] at hm
  have : m = m' ∧ c = c' := by simpa using hm
  rw [← this.1]
  exact e
theorem xp_stepM (acc : List (Nd × Nat)) (p : Nd × Nat) : xp (stepM acc p) = xp acc ++ List.replicate p.2 p.1 := by
  rcases List.eq_nil_or_concat acc with rfl | ⟨r, ⟨m, c⟩, rfl⟩
  · rw [stepM_ne (fun m c hm => by cases hm)]
    simp [xp]
  · rw [List.concat_eq_append]
    by_cases e : m = p.1
    · rw [stepM_eq e, xp_app, xp_app, xp_one, xp_one, List.append_assoc, ← e]
      show xp r ++ List.replicate (c + p.2) m = _
      rw [List.replicate_append_replicate]
    · rw [stepM_ne (last_ne e), xp_app, xp_one]
theorem rd_snoc {gs : List (Nd × Nat)} {p : Nd × Nat} (h : Rd gs) (l : 1 ≤ p.2) (k : ∀ m c, gs.getLast? = some (m, c) → m ≠ p.1) : Rd (gs ++ [p]) := ⟨fun q hq => by
  rcases List.mem_append.mp hq with hq | hq
  · exact h.1 q hq
  · rw [List.mem_singleton.mp hq]
    exact l, fun i q q2 h1 h2 => by
  by_cases z : i + 1 < gs.length
  · rw [List.getElem?_append_left (by omega)] at h1
    rw [List.getElem?_append_left z] at h2
    exact h.2 i q q2 h1 h2
  · have l2 := (List.getElem?_eq_some_iff.mp h2).1
    rw [List.length_append, List.length_singleton] at l2
    rw [List.getElem?_append_left (by omega)] at h1
    rw [List.getElem?_append_right (by omega), show i + 1 - gs.length = 0 by omega] at h2
    have e2 : p = q2 := by simpa using h2
    rw [← e2]
    refine k q.1 q.2 ?_
    rw [List.getLast?_eq_getElem?, show gs.length - 1 = i by omega]
    exact h1⟩
theorem rd_bump {r : List (Nd × Nat)} {m : Nd} {c d : Nat} (h : Rd (r ++ [(m, c)])) : Rd (r ++ [(m, c + d)]) := rd_snoc h.init (Nat.le_trans (h.1 (m, c) (by simp)) (Nat.le_add_right _ _)) fun m' c' hm => by
  rcases List.eq_nil_or_concat r with rfl | ⟨r', p, rfl⟩
  · cases hm
  · rw [List.concat_eq_append] at *
    rw [List.getLast?_append] at hm
    have e : p = (m', c') := by simpa using hm
    have := h.2 r'.length p (m, c) (by rw [List.getElem?_append_left (by simp), List.getElem?_append_right (Nat.le_refl _)]; simp) (by rw [List.getElem?_append_right (by simp)]; simp)
    rw [e] at this
    exact this
theorem rd_stepM {acc : List (Nd × Nat)} {p : Nd × Nat} (h : Rd acc) (l : 1 ≤ p.2) : Rd (stepM acc p) := by
  rcases List.eq_nil_or_concat acc with rfl | ⟨r, ⟨m, c⟩, rfl⟩
  · rw [stepM_ne (fun m c hm => by cases hm)]
    exact rd_snoc h l fun m c hm => by cases hm
  · rw [List.concat_eq_append] at *
    by_cases e : m = p.1
    · rw [stepM_eq e]
      exact rd_bump h
    · rw [stepM_ne (last_ne e)]
      exact rd_snoc h l (last_ne e)
theorem melt_both : ∀ (k : Nat) (gs : List (Nd × Nat)), gs.length = k → (∀ p ∈ gs, 1 ≤ p.2) → Rd (melt gs) ∧ xp (melt gs) = xp gs ∧ (melt gs).length ≤ gs.length
  | 0, gs, e, _ => by
    rw [List.eq_nil_of_length_eq_zero e]
    exact ⟨⟨fun p hp => (nomatch hp), fun i p q hp _ => by simp [melt] at hp⟩, rfl, Nat.le_refl _⟩
  | k + 1, gs, e, h => by
    rcases List.eq_nil_or_concat gs with rfl | ⟨r, p, rfl⟩
    · simp at e
    · rw [List.concat_eq_append] at *
      obtain ⟨i1, i2, i3⟩ := melt_both k r (by simpa using e) fun q hq => h q (List.mem_append_left _ hq)
      rw [melt_app]
      refine ⟨rd_stepM i1 (h p (by simp)), by rw [xp_stepM, i2, xp_app, xp_one], ?_⟩
      rw [List.length_append]
      refine Nat.le_trans ?_ (Nat.add_le_add_right i3 _)
      generalize melt r = acc
      rcases List.eq_nil_or_concat acc with rfl | ⟨r', ⟨m, c⟩, rfl⟩
      · rw [stepM_ne (fun m c hm => by cases hm)]
        simp
      · rw [List.concat_eq_append]
        by_cases e : m = p.1
        · rw [stepM_eq e]
          simp
        · rw [stepM_ne (last_ne e)]
          simp
theorem melt_grp {gs : List (Nd × Nat)} (h : ∀ p ∈ gs, 1 ≤ p.2) : melt gs = grp (xp gs) := by
  obtain ⟨i1, i2, _⟩ := melt_both _ gs rfl h
  exact rd_one i1 (rd_grp _) (by rw [i2, xp_grp])
/-! ### stretches -/
def cutp (start stop : Nat) : Nat → List (Nd × Nat) → List (Nd × Nat)
  | _, [] => []
  | b, p :: r => if 0 < min (b + p.2) stop - max b start then (p.1, min (b + p.2) stop - max b start) :: cutp start stop (b + p.2) r else cutp start stop (b + p.2) r
theorem cutp_out {start stop : Nat} : ∀ (gs : List (Nd × Nat)) (b : Nat), stop ≤ b → cutp start stop b gs = []
  | [], b, _ => rfl
  | p :: r, b, h => by
    rw [cutp, if_neg (by omega), cutp_out r _ (by omega)]
theorem xp_cutp {start stop : Nat} : ∀ (gs : List (Nd × Nat)) (b : Nat), xp (cutp start stop b gs) = ((xp gs).take (stop - b)).drop (start - b)
  | [], b => by simp [cutp, xp]
  | p :: r, b => by
    have ih := xp_cutp (start := start) (stop := stop) r (b + p.2)
    have hd : List.replicate (min (b + p.2) stop - max b start) p.1 = ((List.replicate p.2 p.1).take (stop - b)).drop (start - b) := by
      rw [List.take_replicate, List.drop_replicate]
      congr 1
      omega
    have e2 : xp (cutp start stop b (p :: r)) = List.replicate (min (b + p.2) stop - max b start) p.1 ++ xp (cutp start stop (b + p.2) r) := by
      rw [cutp]
      split
      · rw [xp]
      · rename_i z
        rw [show min (b + p.2) stop - max b start = 0 by omega]
        rfl
    rw [e2, ih, hd, xp, List.take_append, List.drop_append, List.length_take, List.length_replicate]
    congr 1
    by_cases z : p.2 ≤ stop - b
    · rw [Nat.min_eq_right z]
      congr 1
      · omega
      · congr 1
        omega
    · rw [show stop - b - p.2 = 0 by omega, show stop - (b + p.2) = 0 by omega]
      simp
theorem cutp_head {start stop : Nat} : ∀ (gs : List (Nd × Nat)) (b : Nat), start ≤ b → (∀ p ∈ gs, 1 ≤ p.2) → ∀ q, (cutp start stop b gs)[0]? = some q → ∃ p, gs[0]? = some p ∧ p.1 = q.1
  | [], b, _, _, q, h => by simp [cutp] at h
  | p :: r, b, hb, h1, q, h => by
    have p1 := h1 p List.mem_cons_self
    rw [cutp] at h
    split at h
    · refine ⟨p, rfl, ?_⟩
      have : (p.1, min (b + p.2) stop - max b start) = q := by simpa using h
      rw [← this]
    · rw [cutp_out r _ (by omega)] at h
      simp at h
theorem rd_cutp {start stop : Nat} : ∀ (gs : List (Nd × Nat)) (b : Nat), Rd gs → Rd (cutp start stop b gs) ∧ (cutp start stop b gs).length ≤ gs.length ∧ (∀ q ∈ cutp start stop b gs, ∃ p ∈ gs, p.1 = q.1 ∧ q.2 ≤ p.2)
  | [], b, h => ⟨h, Nat.le_refl _, fun q hq => nomatch hq⟩
  | p :: r, b, h => by
    have hr : Rd r := ⟨fun q hq => h.1 q (List.mem_cons_of_mem _ hq), fun i q q2 a c => h.2 (i + 1) q q2 (by rw [List.getElem?_cons_succ]; exact a) (by rw [List.getElem?_cons_succ]; exact c)⟩
    obtain ⟨i1, i2, i3⟩ := rd_cutp (start := start) (stop := stop) r (b + p.2) hr
    have p1 := h.1 p List.mem_cons_self
    rw [cutp]
    split
    · rename_i z
      refine ⟨⟨fun q hq => ?_, fun i q q2 a c => ?_⟩, by simp; omega, fun q hq => ?_⟩
      · rcases List.mem_cons.mp hq with rfl | hq
        · exact z
        · exact i1.1 q hq
      · cases i with
        | zero =>
          rw [List.getElem?_cons_succ] at c
          have e1 : (p.1, min (b + p.2) stop - max b start) = q := by simpa using a
          obtain ⟨p2, e2, e3⟩ := cutp_head r (b + p.2) (by omega) hr.1 q2 c
          rw [← e1, ← e3]
          exact h.2 0 p p2 rfl (by rw [List.getElem?_cons_succ]; exact e2)
        | succ i => exact i1.2 i q q2 (by rw [List.getElem?_cons_succ] at a; exact a) (by rw [List.getElem?_cons_succ] at c; exact c)
      · rcases List.mem_cons.mp hq with rfl | hq
        · exact ⟨p, List.mem_cons_self, rfl, by show min (b + p.2) stop - max b start ≤ p.2; omega⟩
        · obtain ⟨p2, k1, k2⟩ := i3 q hq
          exact ⟨p2, List.mem_cons_of_mem _ k1, k2⟩
    · exact ⟨i1, by simp; omega, fun q hq => by
        obtain ⟨p2, k1, k2⟩ := i3 q hq
        exact ⟨p2, List.mem_cons_of_mem _ k1, k2⟩⟩
theorem cutp_grp {gs : List (Nd × Nat)} {start stop : Nat} (h : Rd gs) : cutp start stop 0 gs = grp (((xp gs).take stop).drop start) := by
  refine rd_one (rd_cutp gs 0 h).1 (rd_grp _) ?_
  rw [xp_cutp, xp_grp]
  rfl
end C62.T

set_option Elab.async false
set_option linter.all false
set_option maxRecDepth 100000
namespace C62.T
open PySem PySem.Spec PyProof.Rows L2 Loc RZ
section
variable {P : Program} {w : World} {K : PySem.W.Frag} {mg : Str → Option Value} {base : Heap}
def spLText (K : PySem.W.Frag) (m : Nat) : Sp := fun vs H Q _ => ∃ v n l, vs = [v] ∧ NdV K H v n ∧ Ok n l ∧ wide l ≤ 1000000 ∧ ht n < m ∧ ∀ H', Same H H' → Q (.str (txt n)) H'
theorem scLText : FnScope ["node", "one"] ["node"] (defScope sLText) := ⟨rfl, rfl, rfl, by decide +kernel, rfl, by decide +kernel, by decide +kernel⟩
theorem ok_ltext {f : Addr} {fd : FuncData} (F : Fun K "_law_text" "_law_text" sLText f fd) (gF : mg "_law_text" = some (.ref f)) (bF : Binds K fd ["node"] []) (mi : mg "isinstance" = none) (mn : mg "int" = none) (ms : mg "str" = none) : ∀ m : Nat, FnOk P w K mg base CX0 (m + 1) f fd ["node"] (spLText K m)
  | 0 => ⟨fun vs H Q E h => by obtain ⟨v, n, l, _, _, _, _, h, _⟩ := h; exact absurd h (Nat.not_lt_zero _), fun A outer s H args us vs Q E _ _ _ _ h => by obtain ⟨v, n, l, _, _, _, _, h, _⟩ := h; exact absurd h (Nat.not_lt_zero _)⟩
  | m + 1 => by
    have IH : FnOk P w K mg base CX0 (m + 1) f fd ["node"] (spLText K m) := ok_ltext F gF bF mi mn ms m
    refine F.ok scLText (fun vs H Q E h => ?_) (fun cdv A outer s H vs Q E hr h => ?_)
    · obtain ⟨v, n, l, rfl, _⟩ := h
      rfl
    · obtain ⟨v, n, l, rfl, hn, ok, hw, hh, q⟩ := h
      refine ⟨_, pss_cons (ps_if (pt_val (pe_callB call_isi (by rfl) mi PyProof.Rows.boot_isinstance (pa_cons (pv 0) (pa_cons (pe_bltn (v := .ty "int") (by rfl) mn (by decide +kernel) rfl) pa_nil))))
            (pss_one (ps_ret (pe_callTy call_str_int (by rfl) ms PyProof.Rows.boot_str (pa_cons (pv 0) pa_nil)))) pss_nil)
        (pss_cons (ps_if (pt_cmpR op_eq (pe_ix ix_tup (pv 0) pe_int (fun _ _ => rfl)) pe_str (nomark _))
            (pss_one (ps_ret (pe_op op_add_str (pe_op op_add_str (pe_call IH hr (by rfl) gF F.kp bF .nil pass0 (pa_cons (pe_ix ix_tup (pv 0) pe_int (fun _ _ => rfl)) pa_nil)) pe_str) (pe_callTy call_str_int (by rfl) ms PyProof.Rows.boot_str (pa_cons (pe_ix ix_tup (pv 0) pe_int (fun _ _ => rfl)) pa_nil))))) pss_nil)
        (pss_one (ps_ret (pe_op op_add_str (pe_op op_add_str pe_str (pe_join pe_str (pe_lc (own := [("one", 1)]) (g := gName 1) (tt := tYes) rfl scLText.nd (pi_tup (pe_ix ix_tup (pv 0) pe_int (fun _ _ => rfl)))
              (blkOk_by (N := ["node", "one"]) (sc := defScope sLText) (by decide +kernel)) (fun _ _ _ _ _ => pg_name (i := 1) scLText.nd rfl (Or.inl rfl)) (fun _ _ _ _ _ => pts_nil)
              (fun _ _ _ _ _ => pe_call IH hr (by rfl) gF F.kp bF .nil pass0 (pa_cons (pv 1) pa_nil))))) pe_str)))), ?_⟩
      have tl := txt_len n l ok
      cases n with
      | run b c =>
        obtain ⟨a, v2, rfl, h1, h2⟩ := hn.run
        refine ⟨_, rfl, _, _, _, _, false, rfl, .ty "int", Loc.SqT.ty h1, kit_ty (by decide +kernel), _, rfl, iteF ?_⟩
        refine ⟨.ref a, rfl, a, _, 0, .str "run", rfl, rfl, h1, rfl, rfl, _, rfl, ?_⟩
        rw [decide_eq_true rfl]
        unfold Ok at ok
        have tb := txt_len b l ok.2.2.2
        rw [ok.2.2.1] at tb
        simp only [Bool.false_eq_true, if_false] at tb
        have nl := numT_len (n := c) (k := 61) (by decide) (Nat.lt_of_le_of_lt ok.2.1 (by decide +kernel))
        have e1 : (Str.ofString "^").length = 1 := by decide +kernel
        refine ⟨.ref a, rfl, a, _, 1, v2, rfl, rfl, h1, rfl, v2, b, l, rfl, h2, ok.2.2.2, hw, ?_, fun H2 s2 => ?_⟩
        · unfold ht at hh
          omega
        refine ⟨_, _, rfl, rfl, ?_, .ref a, rfl, a, _, 2, .int c, rfl, rfl, sameT s2 h1, rfl, c, rfl, log60 ok.2.1, _, _, rfl, rfl, ?_, ?_⟩
        · rw [e1]
          exact Nat.le_trans (show (txt b).length + 1 ≤ 1000001 by omega) (by decide)
        · rw [strLen_append, e1]
          have : (numT c).length ≤ 61 := nl
          exact Nat.le_trans (show (txt b).length + 1 + (numT c).length ≤ 1000100 by omega) (by decide)
        · have := q H2 s2
          unfold txt at this
          exact this
      | el n =>
        have ev := hn.el
        subst ev
        refine ⟨_, rfl, _, _, _, _, true, rfl, .ty "int", .base (.int _), kit_ty (by decide +kernel), _, rfl, iteT ?_⟩
        unfold Ok at ok
        refine ⟨_, rfl, n, rfl, log60 (Nat.le_trans ok.2 (by decide +kernel)), ?_⟩
        have := q H (Same.refl H)
        unfold txt at this
        exact this
      | blk ps =>
        obtain ⟨a, bb, vs, rfl, h1, h2, h3⟩ := hn.blk
        refine ⟨_, rfl, _, _, _, _, false, rfl, .ty "int", Loc.SqT.ty h1, kit_ty (by decide +kernel), _, rfl, iteF ?_⟩
        refine ⟨.ref a, rfl, a, _, 0, .str "block", rfl, rfl, h1, rfl, rfl, _, rfl, ?_⟩
        rw [decide_eq_false (show ¬ (V.str "block" = V.str "run") by decide +kernel)]
        have okc := ok
        unfold Ok at ok
        obtain ⟨l1, l2, l3, okp, _⟩ := ok
        have lv := h3.len
        have sm := txts_len ps (l - 1) okp
        obtain ⟨j, rfl⟩ : ∃ j, l = j + 1 := ⟨l - 1, by omega⟩
        simp only [Nat.add_sub_cancel] at sm okp
        have wj : wide (j + 1) = 3 * wide j + 110 := rfl
        have mm : ps.length * wide j ≤ 3 * wide j := Nat.mul_le_mul_right _ l3
        refine ⟨⟨_, rfl⟩, .ref a, rfl, a, _, 1, .ref bb, rfl, rfl, h1, rfl, bb, rfl, ⟨vs, h2⟩, fun D nD => ?_⟩
        refine lc_tup (xs := vs) (fun i H' => H' D = some (.lst (((txts ps).take i).map V.str)) ∧ Same H H') ⟨by rw [List.take_zero]; exact upd_same, sameN nD⟩ (fun i H' _ hp => sameT hp.2 h2) (fun i u H' hu hp => ?_) (fun H' hp => ?_)
        · obtain ⟨g1, s3⟩ := hp
          obtain ⟨x, hx, kx⟩ := (h3.up (.of s3)).get hu
          have hmem := List.mem_of_getElem? hx
          have ht2 : ht x < m := by
            have := hts_mem hmem
            unfold ht at hh
            omega
          have htx : (txts ps)[i]? = some (txt x) := by rw [txts_map, List.getElem?_map, hx]; rfl
          refine ⟨rfl, u, rfl, u, x, j, rfl, kx, okp.mem x hmem, by omega, ht2, fun H3 s4 => ⟨_, s4 _ _ g1, ?_, ?_, sameW (s3.trans s4) nD⟩⟩
          · rw [List.length_map]
            refine line5 (small_take ?_)
            rw [txts_map, List.length_map]
            omega
          · rw [upd_same, take_more htx, List.map_append]
            rfl
        · obtain ⟨g1, s3⟩ := hp
          have full : (txts ps).take vs.length = txts ps := List.take_of_length_le (by rw [txts_map, List.length_map, lv]; exact Nat.le_refl _)
          rw [full] at g1
          have e1 : (Str.ofString "(").length = 1 := by decide +kernel
          have e2 : (Str.ofString ")").length = 1 := by decide +kernel
          have e3 : (Str.ofString " ").length = 1 := by decide +kernel
          have e4 : (txts ps).length = ps.length := by rw [txts_map, List.length_map]
          have g := size_glued " " (txts ps)
          rw [e3, e4] at g
          have g' : (Txt.join " " (txts ps)).length = ((txts ps).map (·.length)).sum + (ps.length - 1) * 1 := g
          refine ⟨_, D, txts ps, rfl, rfl, .inl (.inl (.inl g1)), ?_, _, _, rfl, rfl, ?_, _, _, rfl, rfl, ?_, ?_⟩
          · rw [e3, e4]
            omega
          · rw [e1]
            refine Nat.le_trans (show 1 + (Txt.join " " (txts ps)).length ≤ 1000100 by omega) (by decide)
          · rw [strLen_append, e1, e2]
            refine Nat.le_trans (show 1 + (Txt.join " " (txts ps)).length + 1 ≤ 1000100 by omega) (by decide)
          · have := q H' s3
            unfold txt at this
            exact this
end
/-! ### the law's own first marks -/
theorem cpD : ∀ {a b : List Nat}, (∀ x ∈ a, Sg x) → (∀ x ∈ b, Sg x) → a ≠ b → cp (a ++ [36]) (b ++ [36]) = cp a b
  | [], [], _, _, h => absurd rfl h
  | [], y :: q, _, hb, _ => by
    have : (36 : Nat) ≠ y := fun z => by
      have := hb y List.mem_cons_self
      rw [← z] at this
      unfold Sg at this
      omega
    show cp (36 :: []) (y :: (q ++ [36])) = cp [] (y :: q)
    simp [cp, this]
  | x :: r, [], ha, _, _ => by
    have : x ≠ 36 := fun z => by
      have := ha x List.mem_cons_self
      rw [z] at this
      unfold Sg at this
      omega
    show cp (x :: (r ++ [36])) (36 :: []) = cp (x :: r) []
    simp [cp, this]
  | x :: r, y :: q, ha, hb, h => by
    show cp (x :: (r ++ [36])) (y :: (q ++ [36])) = cp (x :: r) (y :: q)
    by_cases e : x = y
    · have := cpD (a := r) (b := q) (fun z hz => ha z (List.mem_cons_of_mem _ hz)) (fun z hz => hb z (List.mem_cons_of_mem _ hz)) (fun z => h (by rw [e, z]))
      simp only [cp, e, if_true]
      rw [this]
    · simp [cp, e]
theorem getD36 {b : List Nat} (hb : ∀ x ∈ b, Sg x) {i : Nat} (h : i ≤ b.length) : ∃ c, (b ++ [36])[i]? = some c ∧ (Sg c ∨ c = 36) ∧ code c = codeAt b i := by
  rcases Nat.lt_or_ge i b.length with z | z
  · obtain ⟨c, hc⟩ := get_of z
    exact ⟨c, by rw [List.getElem?_append_left z]; exact hc, .inl (hb c (List.mem_of_getElem? hc)), (codeAt_some hc).symm⟩
  · have e : i = b.length := by omega
    subst e
    refine ⟨36, ?_, .inr rfl, (codeAt_none (List.getElem?_eq_none_iff.mpr (Nat.le_refl _))).symm⟩
    rw [List.getElem?_append_right (Nat.le_refl _), Nat.sub_self]
    rfl
theorem tl_dollar (n : Nd) : TL.tl (txt n ++ Str.ofString "$") = cd n ++ [36] := by
  rw [TL.tl_append, tl_txt]
  exact congrArg (cd n ++ ·) (by decide +kernel)
section
variable {P : Program} {w : World} {K : PySem.W.Frag} {mg : Str → Option Value} {base : Heap}
abbrev nmLF : List Str := ["row", "found", "ahead", "node", "spelt", "spot"]
theorem scLFirst : FnScope nmLF ["row"] (defScope sLFirst) := ⟨rfl, rfl, rfl, by decide +kernel, rfl, by decide +kernel, by decide +kernel⟩
def spLFirst (K : PySem.W.Frag) (m : Nat) : Sp := fun vs H Q _ => ∃ (a : Addr) (us : List V) (ns : List Nd) (l : Nat), vs = [.ref a] ∧ SqL K H a us ∧ NdsV K H us ns ∧ OkAll ns l ∧ Unb ns ∧ wide l ≤ 1000000 ∧ (∀ n ∈ ns, ht n < m) ∧ ns.length ≤ 100000 ∧
  ∀ H' p, Same H H' → H' p = some (.lst ((fms (ns.map cd)).map fun n : Nat => V.int (n : Int))) → Q (.ref p) H'
def aheadV (ns : List Nd) : Nat → V
  | 0 => .non
  | i + 1 => match ns[i]? with
    | some n => .str (txt n ++ Str.ofString "$")
    | none => .non
theorem aheadV_succ {ns : List Nd} {k : Nat} {y : Nd} (h : ns[k]? = some y) : aheadV ns (k + 1) = .str (txt y ++ Str.ofString "$") := by
  show (match ns[k]? with
    | some n => V.str (txt n ++ Str.ofString "$")
    | none => V.non) = _
  rw [h]
theorem dollar_at {n : Nd} {j c : Nat} (h : (cd n ++ [36])[j]? = some c) : (txt n ++ Str.ofString "$").cps.toList[j]? = some c :=
  (congrArg (fun z : List Nat => z[j]?) (tl_dollar n)).trans h
theorem ok_lfirst {f g : Addr} {fd gd : FuncData} (F : Fun K "_law_first" "_law_first" sLFirst f fd) (G : Fun K "_law_text" "_law_text" sLText g gd) (gG : mg "_law_text" = some (.ref g)) (bG : Binds K gd ["node"] [])
    (mi : mg "isinstance" = none) (mn : mg "int" = none) (ms : mg "str" = none) (m : Nat) : FnOk P w K mg base CX0 (m + 2) f fd ["row"] (spLFirst K m) := by
  have GX : FnOk P w K mg base CX0 (m + 1) g gd ["node"] (spLText K m) := ok_ltext G gG bG mi mn ms m
  refine F.ok scLFirst (fun vs H Q E h => ?_) (fun cdv A outer s H vs Q E hr h => ?_)
  · obtain ⟨a, us, ns, l, rfl, _⟩ := h
    rfl
  · obtain ⟨a, us, ns, l, rfl, hS, hn, ok, un, hw, hh, hl, q⟩ := h
    refine ⟨_, pss_cons (ps_par (i := 1) (j := 2) (by rfl) scLFirst.nd rfl rfl (by decide) rfl rfl (pa_cons (pe_lst pa_nil) (pa_cons pe_non pa_nil)) (by rfl))
      (pss_cons (ps_for PassesOwn.never rfl (pi_list (pv 0)) (pg_name (i := 3) scLFirst.nd rfl (.inl rfl))
        (pss_cons (ps_set (i := 4) scLFirst.nd rfl (.inl rfl) (pe_op op_add_str (pe_call GX hr (by rfl) gG G.kp bG .nil pass0 (pa_cons (pv 3) pa_nil)) pe_str))
        (pss_cons (ps_set (i := 5) scLFirst.nd rfl (.inl rfl) pe_int)
        (pss_cons (ps_while PassesOwn.never (PW.pt (pw_and (pt_cmpR op_notN (pv 2) pe_non (nomark _)) (pw_and1 (pt_cmpR op_eq (pe_ix ix_str (pv 2) (pv 5) (fun _ _ => rfl)) (pe_ix ix_str (pv 4) (pv 5) (fun _ _ => rfl)) (nomark _)))))
          (pss_one (ps_set (i := 5) scLFirst.nd rfl (.inl rfl) (pe_op op_add (pv 5) pe_int))))
        (pss_cons (ps_expr (pe_bm PySem.F.plainAttrs_list PySem.F.slot_list_append PySem.F.type_list_append mt_append (pv 1)
            (pa_cons (pe_op op_add (pe_op op_mul pe_int (pv 5)) (pe_m1 PySem.F.slot_str_index PySem.F.type_str_index mt_sindex pe_str (pe_ix ix_str (pv 4) (pv 5) (fun _ _ => rfl)) (by rfl) (by rfl) (by rfl))) pa_nil)))
        (pss_one (ps_set (i := 2) scLFirst.nd rfl (.inl rfl) (pv 4))))))))
      (pss_one (ps_ret (pv 1)))), ?_⟩
    have hlu := hn.len
    have lf : (fms (ns.map cd)).length = ns.length := by rw [fms_length, List.length_map]
    refine ⟨(show 0 ≤ sizeLine from by decide), fun D nD => ⟨_, _, rfl, ?_⟩⟩
    refine ⟨.ref a, rfl, a, rfl, ⟨us, (sameN nD).seq hS⟩, ?_⟩
    refine for_list (xs := us) (fun i σ H' => ∃ y3 y4 y5, σ = [some (.ref a), some (.ref D), some (aheadV ns i), y3, y4, y5] ∧ H' D = some (.lst (((fms (ns.map cd)).take i).map fun n : Nat => V.int (n : Int))) ∧ Same H H')
      ⟨none, none, none, rfl, by rw [List.take_zero]; exact upd_same, sameN nD⟩ (fun i σ H' _ hp => ?_) (fun i u σ H1 hu hp => ?_) (fun σ H' hp => ?_)
    · obtain ⟨_, _, _, _, _, s1⟩ := hp
      exact s1.seq hS
    · obtain ⟨y3, y4, y5, rfl, g1, s1⟩ := hp
      obtain ⟨x, hx, kx⟩ := (hn.up (.of s1)).get hu
      have hmem := List.mem_of_getElem? hx
      have okx := ok.mem x hmem
      have lx := len_cd okx hw
      have hil : i < ns.length := (List.getElem?_eq_some_iff.mp hx).1
      obtain ⟨mk, hmk⟩ := get_of (l := fms (ns.map cd)) (i := i) (by omega)
      have e1 : (Str.ofString "$").length = 1 := by decide +kernel
      have ld : (txt x ++ Str.ofString "$").length ≤ 1000001 := by rw [strLen_append, e1]; omega
      have ld' : (txt x ++ Str.ofString "$").length ≤ sizeLine := Nat.le_trans ld (by decide)
      have ldS : (txt x).length + (Str.ofString "$").length ≤ sizeLine := by rw [← strLen_append]; exact ld'
      refine ⟨u, rfl, u, x, l, rfl, kx, okx, hw, hh x hmem, fun H2 s2 => ⟨_, _, rfl, rfl, ldS, ?_⟩⟩
      have g2 := s2 _ _ g1
      have s12 := s1.trans s2
      refine ⟨fun m' σ' H' => ∃ j : Nat, σ' = [some (.ref a), some (.ref D), some (aheadV ns i), some u, some (.str (txt x ++ Str.ofString "$")), some (.int j)] ∧ H' = H2 ∧
          ((i = 0 ∧ m' = 0 ∧ j = 0) ∨ ∃ k y, i = k + 1 ∧ ns[k]? = some y ∧ j + m' = cp (cd y) (cd x)), ?_, ?_⟩
      · rcases Nat.eq_zero_or_pos i with z | z
        · exact ⟨0, 0, rfl, rfl, .inl ⟨z, rfl, rfl⟩⟩
        · obtain ⟨y, hy⟩ := get_of (l := ns) (i := i - 1) (by omega)
          exact ⟨cp (cd y) (cd x), 0, rfl, rfl, .inr ⟨i - 1, y, by omega, hy, Nat.zero_add _⟩⟩
      rintro m' σ' H' ⟨j, rfl, rfl, hj⟩
      rcases hj with ⟨rfl, rfl, rfl⟩ | ⟨k, y, rfl, hy, hj⟩
      · refine ⟨_, rfl, rfl, _, rfl, ?_⟩
        rw [show (!decide (aheadV ns 0 = V.non)) = false from rfl]
        have e0 : mk = codeAt (cd x) 0 := by
          have : (fms (ns.map cd))[0]? = some (codeAt (cd x) 0) := by
            match ns, hx with
            | z :: r, hx =>
              have : z = x := by simpa using hx
              rw [this]
              rfl
          rw [hmk] at this
          exact Option.some.inj this
        obtain ⟨c, hc, sc, ec⟩ := getD36 (cd_sg x) (Nat.zero_le _)
        obtain ⟨rest, eo⟩ := sign_atL sc
        refine ⟨.ref D, rfl, .inl ⟨rfl, _, .inl (.inl g2)⟩, _, rfl, 16, _, rfl, rfl, .inl ⟨by decide, by decide⟩, ?_⟩
        refine ⟨⟨_, rfl⟩, _, rfl, _, rfl, txt x ++ Str.ofString "$", 0, c, rfl, rfl, ld', atI_nat (dollar_at hc), _, _, _, rest, rfl, rfl, eo, _, _, rfl, rfl, D, _, _, rfl, rfl, g2, ?_, ?_⟩
        · rw [List.length_map]
          exact line5 (small_take (by omega))
        · refine ⟨_, rfl, some u, some (.str (txt x ++ Str.ofString "$")), some (.int ((0 : Nat) : Int)), by rw [aheadV_succ hx]; rfl, ?_, sameW s12 nD⟩
          · rw [upd_same, take_more hmk, List.map_append, e0, ← ec]
            exact congrArg (fun z => some (HO.lst (_ ++ [z]))) (int_congr (by omega))
      · have okp := ok.mem y (List.mem_of_getElem? hy)
        have ly := len_cd okp hw
        have ldy : (txt y ++ Str.ofString "$").length ≤ sizeLine := by rw [strLen_append, e1]; exact Nat.le_trans (show (txt y).length + 1 ≤ 1000001 by omega) (by decide)
        have ne : cd y ≠ cd x := (unlT_of ok un).get (by rw [List.getElem?_map, hy]; rfl) (by rw [List.getElem?_map, hx]; rfl)
        have em := fms_get (ns.map cd) k (cd y) (cd x) (by rw [List.getElem?_map, hy]; rfl) (by rw [List.getElem?_map, hx]; rfl)
        rw [hmk] at em
        have em := Option.some.inj em
        have cl := cp_le (cd y) (cd x)
        obtain ⟨c, hc, sc, ec⟩ := getD36 (cd_sg x) (i := j) (by omega)
        obtain ⟨d, hd, sd, ed⟩ := getD36 (cd_sg y) (i := j) (by omega)
        have ea : aheadV ns (k + 1) = .str (txt y ++ Str.ofString "$") := aheadV_succ hy
        have ce := cpD (cd_sg y) (cd_sg x) ne
        rw [ea]
        refine ⟨_, rfl, rfl, _, rfl, ?_⟩
        rw [show (!decide (V.str (txt y ++ Str.ofString "$") = V.non)) = true from by rw [decide_eq_false (fun z => nomatch z)]; rfl]
        refine ⟨_, rfl, _, rfl, txt y ++ Str.ofString "$", j, d, rfl, rfl, ldy, atI_nat (dollar_at hd), _, rfl, _, rfl, txt x ++ Str.ofString "$", j, c, rfl, rfl, ld', atI_nat (dollar_at hc), rfl, _, rfl, ?_⟩
        rw [Loc.one_sign]
        by_cases e : d = c
        · rw [decide_eq_true e]
          have hlt : j < cp (cd y) (cd x) := by
            rcases Nat.lt_or_ge j (cp (cd y) (cd x)) with z | z
            · exact z
            · have : j = cp (cd y ++ [36]) (cd x ++ [36]) := by rw [ce]; omega
              rw [this] at hc hd
              exact absurd e (cp_stop _ _ d c hd hc)
          refine ⟨fun σ' H'' => σ' = [some (.ref a), some (.ref D), some (.str (txt y ++ Str.ofString "$")), some u, some (.str (txt x ++ Str.ofString "$")), some (.int ((j + 1 : Nat) : Int))] ∧ H'' = H', fun σ' H'' hN => ⟨m' - 1, by omega, j + 1, hN.1, hN.2, .inr ⟨k, y, rfl, hy, by omega⟩⟩, ?_⟩
          refine ⟨_, rfl, j, 1, rfl, rfl, ?_, rfl⟩
          rw [Int.natCast_add]
          rfl
        · rw [decide_eq_false e]
          have hj' : j = cp (cd y) (cd x) := by
            rcases Nat.lt_or_ge j (cp (cd y) (cd x)) with z | z
            · rw [← ce] at z
              obtain ⟨u', h1, h2⟩ := cp_same _ _ j z
              rw [hd] at h1
              rw [hc] at h2
              exact absurd ((Option.some.inj h1).trans (Option.some.inj h2).symm) e
            · omega
          obtain ⟨rest, eo⟩ := sign_atL sc
          refine ⟨.ref D, rfl, .inl ⟨rfl, _, .inl (.inl g2)⟩, _, rfl, 16, _, rfl, rfl, .inl ⟨by decide, by decide⟩, ⟨_, rfl⟩, _, rfl, _, rfl, txt x ++ Str.ofString "$", j, c, rfl, rfl, ld', atI_nat (dollar_at hc), _, _, _, rest, rfl, rfl, eo, _, _, rfl, rfl, D, _, _, rfl, rfl, g2, ?_, ?_⟩
          · rw [List.length_map]
            exact line5 (small_take (by omega))
          · refine ⟨_, rfl, some u, some (.str (txt x ++ Str.ofString "$")), some (.int (j : Int)), by rw [aheadV_succ hx]; rfl, ?_, sameW s12 nD⟩
            · rw [upd_same, take_more hmk, List.map_append, em]
              unfold fmk
              rw [← hj', ← ec]
              exact congrArg (fun z => some (HO.lst (_ ++ [z]))) (int_congr (by omega))
    · obtain ⟨y3, y4, y5, rfl, g1, s1⟩ := hp
      rw [hlu, ← lf, List.take_length] at g1
      exact ⟨_, rfl, q _ _ s1 g1⟩
end
/-! ### the law's own round -/
section
variable {P : Program} {w : World} {K : PySem.W.Frag} {mg : Str → Option Value} {base : Heap}
theorem scRound : FnScope ["some", "found", "at", "digit", "low", "high"] ["some"] (defScope sRound) := ⟨rfl, rfl, rfl, by decide +kernel, rfl, by decide +kernel, by decide +kernel⟩
def spRound (K : PySem.W.Frag) : Sp := fun vs H Q _ => ∃ (a : Addr) (ns : List Nat), vs = [.ref a] ∧ SqA K H a (vN ns) ∧ M07.Unl ns ∧ ns ≠ [] ∧ ns.length ≤ 100000 ∧
  ∀ H' p, Same H H' → H' p = some (.lst (vN (M07.round ns))) → Q (.ref p) H'
theorem ok_round {f : Addr} {fd : FuncData} {k : Nat} (F : Fun K "_law_round" "_law_round" sRound f fd) (ml : mg "len" = none) (mr : mg "range" = none) : FnOk P w K mg base CX0 (k + 1) f fd ["some"] (spRound K) := by
  refine F.ok scRound (fun vs H Q E h => ?_) (fun cdv A outer s H vs Q E hr h => ?_)
  · obtain ⟨a, ns, rfl, _⟩ := h
    rfl
  · obtain ⟨a, ns, rfl, hS, un, ne, hl, q⟩ := h
    refine ⟨_, pss_cons (ps_set (i := 1) scRound.nd rfl (.inl rfl) (pe_lst (pa_cons (pe_op op_mod (pe_ix ix_seq (pv 0) pe_int (fun _ _ => rfl)) pe_int) pa_nil)))
      (pss_cons (ps_for PassesOwn.never rfl (pi_range2 (by rfl) mr (pa_cons pe_int (pa_cons (pe_callB call_len_seq (by rfl) ml PySem.boot_len (pa_cons (pv 0) pa_nil)) pa_nil))) (pg_name (i := 2) scRound.nd rfl (.inl rfl))
        (pss_cons (ps_par3 (i := 3) (j := 4) (l := 5) (by rfl) scRound.nd rfl rfl rfl (by decide) (by decide) (by decide) rfl rfl rfl
            (pa_cons pe_int (pa_cons (pe_ix ix_seq (pv 0) (pe_op op_sub (pv 2) pe_int) (fun _ _ => rfl)) (pa_cons (pe_ix ix_seq (pv 0) (pv 2) (fun _ _ => rfl)) pa_nil))) (by rfl))
        (pss_cons (ps_while PassesOwn.never (pt_cmpR op_eq (pe_op op_mod (pv 4) pe_int) (pe_op op_mod (pv 5) pe_int) (nomark _))
            (pss_one (ps_par3 (i := 3) (j := 4) (l := 5) (by rfl) scRound.nd rfl rfl rfl (by decide) (by decide) (by decide) rfl rfl rfl
              (pa_cons (pe_op op_add (pv 3) pe_int) (pa_cons (pe_op op_fdiv (pv 4) pe_int) (pa_cons (pe_op op_fdiv (pv 5) pe_int) pa_nil))) (by rfl))))
        (pss_one (ps_expr (pe_bm PySem.F.plainAttrs_list PySem.F.slot_list_append PySem.F.type_list_append mt_append (pv 1) (pa_cons (pe_op op_add (pe_op op_mul pe_int (pv 3)) (pe_op op_mod (pv 5) pe_int)) pa_nil)))))))
      (pss_one (ps_ret (pv 1)))), ?_⟩
    obtain ⟨n, r, rfl⟩ : ∃ n r, ns = n :: r := by
      cases ns with
      | nil => exact absurd rfl ne
      | cons n r => exact ⟨n, r, rfl⟩
    refine ⟨.ref a, rfl, hS.ix (v := .int n) (atI_nat (j := 0) (by rfl)) ⟨_, 2, rfl, rfl, (show (0 : Int) < 2 by decide), (show 1 ≤ sizeLine from by decide), fun fd hfd => ?_⟩⟩
    have e0 : (n : Int) % 2 = ((n % 2 : Nat) : Int) := by omega
    refine ⟨.ref a, rfl, a, vN (n :: r), rfl, hS.same (sameN hfd), 1, _, rfl, ⟨by decide, by decide, ?_, ?_⟩, ?_⟩
    · show -(2 ^ 62) ≤ (((vN (n :: r)).length : Nat) : Int)
      omega
    · show (((vN (n :: r)).length : Nat) : Int) < 2 ^ 62
      rw [vN_len]
      omega
    have hn : ((((vN (n :: r)).length : Nat) : Int) - 1).toNat = r.length := by
      rw [vN_len, List.length_cons]
      omega
    refine for_range (fun i σ H' => ∃ y2 y3 y4 y5, σ = [some (.ref a), some (.ref fd), y2, y3, y4, y5] ∧ H' = upd H fd (.lst (vN ((M07.round (n :: r)).take (i + 1)))))
      ⟨none, none, none, none, rfl, ?_⟩ (fun i σ H' hi hp => ?_) (fun σ H' hp => ?_)
    · show upd H fd (.lst [V.int ((n : Int) % 2)]) = _
      rw [e0]
      rfl
    · obtain ⟨y2, y3, y4, y5, rfl, rfl⟩ := hp
      rw [hn] at hi
      have hS' : SqA K (upd H fd (.lst (vN ((M07.round (n :: r)).take (i + 1))))) a (vN (n :: r)) := hS.same (sameN hfd)
      obtain ⟨x, gx⟩ := get_of (l := n :: r) (i := i) (by rw [List.length_cons]; omega)
      obtain ⟨y, gy⟩ := get_of (l := n :: r) (i := i + 1) (by rw [List.length_cons]; omega)
      have hne := M07.Unl.get un gx gy
      have em := M07.round_get (n :: r) i x y gx gy
      obtain ⟨_, s2, s3⟩ := M07.low_spec (x + y + 1) x y (by omega) hne
      have s4 : M07.mk x y = 2 * M07.low (x + y + 1) x y + (y / 2 ^ M07.low (x + y + 1) x y) % 2 := rfl
      generalize M07.low (x + y + 1) x y = L at s2 s3 s4
      refine ⟨.ref a, rfl, _, rfl, _, 1, rfl, rfl, hS'.ix (v := .int x) (at_of (j := i) (by omega) (vN_get gx)) ⟨.ref a, rfl, _, rfl, hS'.ix (v := .int y) (at_of (j := i + 1) (by omega) (vN_get gy)) ⟨_, _, _, rfl, ?_⟩⟩⟩
      refine ⟨fun m σ H' => ∃ t, m = L - t ∧ t ≤ L ∧ σ = [some (.ref a), some (.ref fd), some (.int (1 + i)), some (.int (t : Nat)), some (.int ((x / 2 ^ t : Nat) : Int)), some (.int ((y / 2 ^ t : Nat) : Int))] ∧
          H' = upd H fd (.lst (vN ((M07.round (n :: r)).take (i + 1)))), ⟨L, 0, rfl, Nat.zero_le _, ?_, rfl⟩, ?_⟩
      · simp
      · rintro m σ H' ⟨t, rfl, ht, rfl, rfl⟩
        refine ⟨_, rfl, _, 2, rfl, rfl, (show (0 : Int) < 2 by decide), _, rfl, _, 2, rfl, rfl, (show (0 : Int) < 2 by decide), rfl, _, rfl, ite2 (fun e => ?_) (fun e => ?_)⟩
        · have e1 : ((x / 2 ^ t : Nat) : Int) % 2 = ((y / 2 ^ t : Nat) : Int) % 2 := V.int.inj (of_decide_eq_true e)
          have e2 : (x / 2 ^ t) % 2 = (y / 2 ^ t) % 2 := by omega
          have lt : t < L := by
            rcases Nat.lt_or_ge t L with z | z
            · exact z
            · have : t = L := by omega
              subst this
              exact absurd e2 s2
          refine ⟨fun σ' H' => σ' = [some (.ref a), some (.ref fd), some (.int (1 + i)), some (.int ((t + 1 : Nat) : Nat)), some (.int ((x / 2 ^ (t + 1) : Nat) : Int)), some (.int ((y / 2 ^ (t + 1) : Nat) : Int))] ∧
              H' = upd H fd (.lst (vN ((M07.round (n :: r)).take (i + 1)))), fun σ' H' hN => ⟨L - (t + 1), by omega, t + 1, rfl, lt, hN.1, hN.2⟩, ?_⟩
          refine ⟨_, rfl, _, 1, rfl, rfl, _, rfl, _, 2, rfl, rfl, ⟨by decide, by decide⟩, _, rfl, _, 2, rfl, rfl, ⟨by decide, by decide⟩, _, _, _, rfl, ?_, rfl⟩
          rw [← half_pow x t, ← half_pow y t]
          rfl
        · have e2 : ¬ (x / 2 ^ t) % 2 = (y / 2 ^ t) % 2 := fun z => e (decide_eq_true (int_congr (by omega)))
          have eL : t = L := by
            rcases Nat.lt_or_ge t L with z | z
            · exact absurd (s3 t z) e2
            · omega
          subst eL
          refine ⟨.ref fd, rfl, .inl ⟨rfl, _, .inl (.inl upd_same)⟩, _, rfl, 2, _, rfl, rfl, .inl ⟨by decide, by decide⟩, _, rfl, _, 2, rfl, rfl, (show (0 : Int) < 2 by decide), _, _, rfl, rfl, fd, _, _, rfl, rfl, upd_same, ?_, ?_⟩
          · rw [vN_len]
            exact line5 (small_take (by rw [M07.round_length]; exact hl))
          · refine ⟨_, _, _, _, rfl, ?_⟩
            rw [upd_upd, take_more em, s4]
            refine congrArg (fun z => upd H fd (.lst z)) (Eq.trans ?_ (vN_app _ _).symm)
            exact congrArg (fun z => vN ((M07.round (n :: r)).take (i + 1)) ++ [z]) (int_congr (a := 2 * (t : Int) + ((y / 2 ^ t : Nat) : Int) % 2) (by omega))
    · obtain ⟨y2, y3, y4, y5, rfl, rfl⟩ := hp
      rw [hn, List.take_of_length_le (by rw [M07.round_length]; exact Nat.le_refl _)]
      exact ⟨.ref fd, rfl, q _ _ (sameN hfd) upd_same⟩
end
/-! ### the law's own pieces -/
section
variable {P : Program} {w : World} {K : PySem.W.Frag} {mg : Str → Option Value} {base : Heap}
theorem scLMarks : FnScope ["row", "found", "turn"] ["row"] (defScope sLMarks) := ⟨rfl, rfl, rfl, by decide +kernel, rfl, by decide +kernel, by decide +kernel⟩
abbrev nmLP : List Str := ["row", "tops", "found", "begins", "begin", "end", "at"]
theorem scLPieces : FnScope nmLP ["row"] (defScope sLPieces) := ⟨rfl, rfl, rfl, by decide +kernel, rfl, by decide +kernel, by decide +kernel⟩
/-- a row of nodes, in a list -/
def RowW (K : PySem.W.Frag) (m : Nat) (H : Hp) (a : Addr) (ns : List Nd) : Prop := ∃ us l, H a = some (.lst us) ∧ NdsV K H us ns ∧ OkAll ns l ∧ Unb ns ∧ wide l ≤ 1000000 ∧ (∀ n ∈ ns, ht n < m) ∧ 2 ≤ ns.length ∧ ns.length ≤ 100000
theorem RowW.same {m : Nat} {H H' : Hp} {a : Addr} {ns : List Nd} (h : RowW K m H a ns) (s : Same H H') : RowW K m H' a ns := by
  obtain ⟨us, l, h1, h2, h3⟩ := h
  exact ⟨us, l, s _ _ h1, h2.up (.of s), h3⟩
theorem slice_anyL {H : Hp} {a : Addr} {xs : List V} {b e : Nat} {Q : VK} (h : H a = some (.lst xs)) (h1 : b ≤ e) (h2 : e ≤ xs.length) (q : ∀ H' t, Same H H' → H' t = some (.lst ((xs.take e).drop b)) → Q (.ref t) H') : rSlL K (.ref a) (some (b : Int)) (some (e : Int)) H Q := by
  refine ⟨a, xs, rfl, .inl (.inl h), fun p hp => q _ p (sameN hp) ?_⟩
  rw [upd_same]
  unfold cutV
  rw [HT.sIx_nat, HT.sIx_nat, Nat.min_eq_left h2, Nat.min_eq_left (Nat.le_trans h1 h2), List.drop_take]
def spLMarks (K : PySem.W.Frag) (m : Nat) : Sp := fun vs H Q _ => ∃ (a : Addr) (ns : List Nd), vs = [.ref a] ∧ RowW K m H a ns ∧ ∀ H' p, Same H H' → H' p = some (.lst (vN (mrk ns))) → Q (.ref p) H'
/-- tuples that hold the pieces -/
def PcsV (K : PySem.W.Frag) (H : Hp) (ns : List Nd) (ws : List V) (zs : List (Nat × Nat)) : Prop := ws.length = zs.length ∧ ∀ (i : Nat) (v : V), ws[i]? = some v → ∃ (z : Nat × Nat) (t : Addr) (us : List V), zs[i]? = some z ∧ v = .ref t ∧ SqT K H t us ∧ NdsV K H us (pce ns z)
theorem PcsV.nil {H : Hp} {ns : List Nd} : PcsV K H ns [] [] := ⟨rfl, fun i v h => by simp at h⟩
theorem PcsV.up {H H' : Hp} {ns : List Nd} {ws : List V} {zs : List (Nat × Nat)} (h : PcsV K H ns ws zs) (e : Tups K H H') : PcsV K H' ns ws zs := ⟨h.1, fun i v hv => by
  obtain ⟨z, t, us, h1, h2, h3, h4⟩ := h.2 i v hv
  exact ⟨z, t, us, h1, h2, e _ _ h3, h4.up e⟩⟩
theorem PcsV.app {H : Hp} {ns : List Nd} {ws : List V} {zs : List (Nat × Nat)} {z : Nat × Nat} {t : Addr} {us : List V} (h : PcsV K H ns ws zs) (ht : SqT K H t us) (hn : NdsV K H us (pce ns z)) : PcsV K H ns (ws ++ [.ref t]) (zs ++ [z]) := by
  refine ⟨by rw [List.length_append, List.length_append, h.1]; rfl, fun i v hv => ?_⟩
  by_cases c : i < ws.length
  · rw [List.getElem?_append_left c] at hv
    obtain ⟨z', t', us', h1, h2⟩ := h.2 i v hv
    exact ⟨z', t', us', by rw [List.getElem?_append_left (by rw [← h.1]; exact c)]; exact h1, h2⟩
  · rw [List.getElem?_append_right (by omega)] at hv
    have e0 : i - ws.length = 0 := by
      rcases Nat.eq_zero_or_pos (i - ws.length) with z' | z'
      · exact z'
      · rw [List.getElem?_eq_none_iff.mpr (by simp; omega)] at hv
        cases hv
    rw [e0] at hv
    have hv := Option.some.inj hv
    refine ⟨z, t, us, ?_, hv.symm, ht, hn⟩
    rw [List.getElem?_append_right (by rw [← h.1]; omega), ← h.1, e0]
    rfl
def spLPieces (K : PySem.W.Frag) (m : Nat) : Sp := fun vs H Q _ => ∃ (a : Addr) (ns : List Nd), vs = [.ref a] ∧ RowW K m H a ns ∧ ∀ H' p ws, Same H H' → H' p = some (.lst ws) → PcsV K H' ns ws (pieces ns) → Q (.ref p) H'
theorem ok_lmarks {f g h' : Addr} {fd gd hd : FuncData} {m : Nat} (F : Fun K "_law_marks" "_law_marks" sLMarks f fd) (G : FnOk P w K mg base CX0 (m + 2) g gd ["row"] (spLFirst K m)) (G' : Fun K "_law_first" "_law_first" sLFirst g gd) (gG : mg "_law_first" = some (.ref g)) (bG : Binds K gd ["row"] [])
    (N : FnOk P w K mg base CX0 1 h' hd ["some"] (spRound K)) (N' : Fun K "_law_round" "_law_round" sRound h' hd) (gN : mg "_law_round" = some (.ref h')) (bN : Binds K hd ["some"] []) (mr : mg "range" = none) : FnOk P w K mg base CX0 (m + 3) f fd ["row"] (spLMarks K m) := by
  refine F.ok scLMarks (fun vs H Q E h => ?_) (fun cdv A outer s H vs Q E hr h => ?_)
  · obtain ⟨a, ns, rfl, _⟩ := h
    rfl
  · obtain ⟨a, ns, rfl, ⟨us, l, hT, hN, ok, un, hw, hh, h2, hl⟩, q⟩ := h
    have r1 := hr.mono (j := 1) (by omega)
    refine ⟨_, pss_cons (ps_set (i := 1) scLMarks.nd rfl (.inl rfl) (pe_call G hr (by rfl) gG G'.kp bG .nil pass0 (pa_cons (pv 0) pa_nil)))
      (pss_cons (ps_for PassesOwn.never rfl (pi_range1 (by rfl) mr (pa_cons pe_int pa_nil)) (pg_name (i := 2) scLMarks.nd rfl (.inl rfl))
        (pss_one (ps_set (i := 1) scLMarks.nd rfl (.inl rfl) (pe_call N r1 (by rfl) gN N'.kp bN .nil pass0 (pa_cons (pv 1) pa_nil)))))
      (pss_one (ps_ret (pv 1)))), ?_⟩
    refine ⟨.ref a, rfl, a, us, ns, l, rfl, .inl (.inl hT), hN, ok, un, hw, hh, hl, fun H1 p s1 hp => ?_⟩
    have u0 : M07.Unl (fms (ns.map cd)) := fms_unl _ (cds_sgs ns) (unlT_of ok un)
    refine ⟨4, rfl, by decide, by decide, ?_⟩
    refine for_range (fun i σ H' => ∃ p y2, σ = [some (.ref a), some (.ref p), y2] ∧ H' p = some (.lst (vN (rd i (fms (ns.map cd))))) ∧ Same H H') ⟨p, none, rfl, hp, s1⟩ (fun i σ H2 hi hp => ?_) (fun σ H' hp => ?_)
    · obtain ⟨p, y2, rfl, hp, s2⟩ := hp
      have ln : (rd i (fms (ns.map cd))).length = ns.length := by rw [rd_len, fms_length, List.length_map]
      refine ⟨.ref p, rfl, p, _, rfl, .inl (.inl (.inl hp)), rd_unl i _ u0, ?_, ?_, fun H3 p3 s3 h3 => ⟨p3, _, rfl, h3, s2.trans s3⟩⟩
      · intro z
        rw [z] at ln
        have : 0 = ns.length := ln
        omega
      · rw [ln]
        exact hl
    · obtain ⟨p, y2, rfl, hp, s2⟩ := hp
      exact ⟨_, rfl, q _ _ s2 hp⟩
theorem str_step {d b : Nat} (h : 4 ≤ d) : M10.str d b = (b, b + 2) :: M10.str (d - 2) (b + 2) := by
  obtain ⟨k, rfl⟩ : ∃ k, d = k + 4 := ⟨d - 4, by omega⟩
  rfl
theorem str_last {d b : Nat} (h : d < 4) : M10.str d b = [(b, b + d)] := by
  match d, h with
  | 0, _ => rfl
  | 1, _ => rfl
  | 2, _ => rfl
  | 3, _ => rfl
theorem flat_le {st : List (Nat × Nat)} {i n : Nat} (h : (st.flatMap M10.stz).length ≤ n) : ((st.take i).flatMap M10.stz).length ≤ n := by
  have e1 : (st.take i).flatMap M10.stz ++ (st.drop i).flatMap M10.stz = st.flatMap M10.stz := by rw [← List.flatMap_append, List.take_append_drop]
  have e2 := congrArg List.length e1
  rw [List.length_append] at e2
  omega
theorem ok_lpieces {f g : Addr} {fd gd : FuncData} {m : Nat} (F : Fun K "_law_pieces" "_law_pieces" sLPieces f fd) (G : FnOk P w K mg base CX0 (m + 3) g gd ["row"] (spLMarks K m)) (G' : Fun K "_law_marks" "_law_marks" sLMarks g gd) (gG : mg "_law_marks" = some (.ref g)) (bG : Binds K gd ["row"] [])
    (mr : mg "range" = none) (ml : mg "len" = none) (mt : mg "tuple" = none) (mz : mg "zip" = none) (mx : mg "max" = none) : FnOk P w K mg base CX0 (m + 4) f fd ["row"] (spLPieces K m) := by
  refine F.ok scLPieces (fun vs H Q E h => ?_) (fun cdv A outer s H vs Q E hr h => ?_)
  · obtain ⟨a, ns, rfl, _⟩ := h
    rfl
  · obtain ⟨a, ns, rfl, hR, q⟩ := h
    refine ⟨_, pss_cons (ps_asg (pe_tup (pa_cons (pe_call G hr (by rfl) gG G'.kp bG .nil pass0 (pa_cons (pv 0) pa_nil)) (pa_cons (pe_lst pa_nil) pa_nil)))
          (pg_tup rfl (pgs_cons (pg_name (i := 1) scLPieces.nd rfl (.inr rfl)) (pgs_cons (pg_name (i := 2) scLPieces.nd rfl (.inl rfl)) pgs_nil))))
      (pss_cons (ps_setLc (i := 3) (own := [("at", 6)]) (g := gName 6)
          (tt := tTest (tOp (rI0 fun i j => .bl (decide (j < i))) (tOp (rIxL K) (tVar 1) (tVar 6)) (tCB (fun xs H Q => ∃ i j, xs = [V.int i, .int j] ∧ Q (.int (if j > i then j else i)) H)
            (tCons (tOp (rIxL K) (tVar 1) (tOp (rI0 fun i j => .int (i - j)) (tVar 6) (tC (.int 1)))) (tCons (tOp (rIxL K) (tVar 1) (tOp (rI0 fun i j => .int (i + j)) (tVar 6) (tC (.int 1)))) tNil)))))
          rfl scLPieces.nd rfl rfl (sw_true rfl rfl rfl (by decide +kernel))
          (pi_range2 (by rfl) mr (pa_cons pe_int (pa_cons (pe_op op_sub (pe_callB call_len_seq (by rfl) ml PySem.boot_len (pa_cons (pv 0) pa_nil)) pe_int) pa_nil)))
          (blkOk_by (N := nmLP) (sc := defScope sLPieces) (by decide +kernel)) (fun _ _ _ _ _ => pg_name (i := 6) scLPieces.nd rfl (Or.inl rfl))
          (fun _ _ _ _ _ => pts_one (pt_cmpR op_gt (pe_ix ix_list (pv 1) (pv 6) (fun _ _ => rfl)) (pe_callB (L2.call_max2 rfl) (by rfl) mx (by decide +kernel) (pa_cons (pe_ix ix_list (pv 1) (pe_op op_sub (pv 6) pe_int) (fun _ _ => rfl))
            (pa_cons (pe_ix ix_list (pv 1) (pe_op op_add (pv 6) pe_int) (fun _ _ => rfl)) pa_nil))) (nomark _)))
          (fun _ _ _ _ _ => pv 6))
      (pss_cons (ps_for PassesOwn.never rfl (pi_zipA (by rfl) mz (pa_cons (pe_op op_cat (pe_lst (pa_cons pe_int pa_nil)) (pv 3)) (pa_cons (pe_op op_cat (pv 3) (pe_lst (pa_cons (pe_callB call_len_seq (by rfl) ml PySem.boot_len (pa_cons (pv 0) pa_nil)) pa_nil))) pa_nil)))
          (pg_tup rfl (pgs_cons (pg_name (i := 4) scLPieces.nd rfl (.inl rfl)) (pgs_cons (pg_name (i := 5) scLPieces.nd rfl (.inl rfl)) pgs_nil)))
        (pss_cons (ps_while PassesOwn.never (pt_cmpR op_gt (pe_op op_sub (pv 5) (pv 4)) pe_int (nomark _))
            (pss_cons (ps_expr (pe_bm PySem.F.plainAttrs_list PySem.F.slot_list_append PySem.F.type_list_append mt_append (pv 2) (pa_cons (pe_callTy call_tuple_of (by rfl) mt PyProof.Rows.boot_tuple
                (pa_cons (pe_slice sl_list (pv 0) (po_some (pv 4)) (po_some (pe_op op_add (pv 4) pe_int))) pa_nil)) pa_nil)))
              (pss_one (ps_set (i := 4) scLPieces.nd rfl (.inl rfl) (pe_op op_add (pv 4) pe_int)))))
        (pss_one (ps_expr (pe_bm PySem.F.plainAttrs_list PySem.F.slot_list_append PySem.F.type_list_append mt_append (pv 2) (pa_cons (pe_callTy call_tuple_of (by rfl) mt PyProof.Rows.boot_tuple
                (pa_cons (pe_slice sl_list (pv 0) (po_some (pv 4)) (po_some (pv 5))) pa_nil)) pa_nil))))))
      (pss_one (ps_ret (pv 2))))), ?_⟩
    refine ⟨.ref a, rfl, a, ns, rfl, hR, fun H1 p s1 hp => ?_⟩
    obtain ⟨us, l0, hT, hN, _, _, _, _, h2, hl⟩ := hR.same s1
    have hlu := hN.len
    have lm := mrk_len ns
    have gap := gap_row h2
    have con := pieces_cont h2
    have lp := pieces_fst_len h2
    refine ⟨(show 0 ≤ sizeLine from by decide), fun FF nF => ⟨(show 2 ≤ sizeLine from by decide), fun T0 nT0 => ?_⟩⟩
    have naF : a ≠ FF := ne_of_none hT nF
    have sT0 := sameN (o := .tup [V.ref p, .ref FF]) nT0
    have sF := (sameN (o := .lst []) nF).trans sT0
    refine ⟨T0, [.ref p, .ref FF], rfl, .inl (.inl upd_same), rfl, .ref p, [.ref FF], rfl, .ref FF, [], rfl, rfl, ?_⟩
    have gF2 := sT0 _ _ (upd_same (H := H1) (a := FF) (o := .lst []))
    have hp2 := sF _ _ hp
    have hT2 := sF _ _ hT
    have hN2 := hN.up (.of (K := K) sF)
    generalize upd (upd H1 FF (.lst [])) T0 (.tup [V.ref p, .ref FF]) = H2 at sF gF2 hp2 hT2 hN2 ⊢
    -- begins
    refine ⟨.ref a, rfl, a, us, rfl, .inl (.inl (.inl hT2)), _, _, rfl, rfl, 2, _, rfl, ⟨by decide, by decide, by omega, by omega⟩, fun D nD => ?_⟩
    have n0 : ((((us.length : Nat) : Int) - 1) - 2).toNat = ns.length - 3 := by omega
    refine lc_range (fun i H' => H' D = some (.lst (vN ((List.range' 2 i).filter (M10.pk (mrk ns))))) ∧ Same H2 H') ⟨upd_same, sameN nD⟩ (fun i H' hi hp' => ?_) (fun H3 hp' => ?_)
    · obtain ⟨gD, sD⟩ := hp'
      rw [n0] at hi
      have pM : SqL K H' p (vN (mrk ns)) := .inl (.inl (sD _ _ hp2))
      obtain ⟨x, hx⟩ := get_of (l := mrk ns) (i := i + 1) (by omega)
      obtain ⟨y, hy⟩ := get_of (l := mrk ns) (i := i + 2) (by omega)
      obtain ⟨z, hz⟩ := get_of (l := mrk ns) (i := i + 3) (by omega)
      have ek : M10.pk (mrk ns) (2 + i) = (decide (x < y) && decide (z < y)) := by
        unfold M10.pk
        rw [show 2 + i - 1 = i + 1 by omega, show 2 + i = i + 2 by omega, hx, hy, show i + 2 + 1 = i + 3 by omega, hz]
      refine ⟨rfl, ?_⟩
      refine ⟨.ref p, rfl, _, rfl, p, _, ((i + 2 : Nat) : Int), .int y, rfl, int_congr (by omega), pM, atI_nat (vN_get hy), .ref p, rfl, _, rfl, _, 1, rfl, rfl, p, _, ((i + 1 : Nat) : Int), .int x, rfl, int_congr (by omega), pM, atI_nat (vN_get hx),
        .ref p, rfl, _, rfl, _, 1, rfl, rfl, p, _, ((i + 3 : Nat) : Int), .int z, rfl, int_congr (by omega), pM, atI_nat (vN_get hz), _, _, rfl, _, _, rfl, rfl, _, rfl, ite2 (fun e => ?_) (fun e => ?_)⟩
      · have e1 : x < y ∧ z < y := by
          have := of_decide_eq_true e
          split at this <;> omega
        refine ⟨_, rfl, _, gD, ?_, ?_, sameW sD nD⟩
        · rw [vN_len]
          refine line5 (Nat.le_trans (List.length_filter_le _ _) ?_)
          rw [List.length_range']
          omega
        · rw [upd_same, range'_more, List.filter_append, List.filter_cons_of_pos (by rw [ek, decide_eq_true e1.1, decide_eq_true e1.2]; rfl), List.filter_nil, vN_app]
          exact congrArg (fun z => some (HO.lst (_ ++ [z]))) (int_congr (by omega))
      · have e1 : (decide (x < y) && decide (z < y)) = false := by
          rw [Bool.and_eq_false_iff, decide_eq_false_iff_not, decide_eq_false_iff_not]
          by_cases c : x < y
          · refine .inr fun c2 => e (decide_eq_true ?_)
            split <;> omega
          · exact .inl c
        rw [range'_more, List.filter_append, List.filter_cons_of_neg (by rw [ek, e1]; simp), List.filter_nil, List.append_nil]
        exact ⟨gD, sD⟩
    obtain ⟨gD, sD⟩ := hp'
    have gD : H3 D = some (.lst (vN (tops ns))) := by
      rw [n0] at gD
      unfold tops M10.pks
      rw [lm]
      exact gD
    have gF3 := sD _ _ gF2
    have hT3 := sD _ _ hT2
    have hN3 := hN2.up (.of (K := K) sD)
    have s13 : Same H H3 := (s1.trans sF).trans sD
    have tl : (tops ns).length ≤ ns.length := by
      unfold tops M10.pks
      refine Nat.le_trans (List.length_filter_le _ _) ?_
      rw [List.length_range', mrk_len]
      omega
    -- zip
    refine ⟨(show 1 ≤ sizeLine from by decide), fun t0 n0' => ⟨.ref D, rfl, t0, D, [.int 0], vN (tops ns), rfl, rfl, upd_same, sameN n0' _ _ gD, Nat.le_trans (show 1 + (vN (tops ns)).length ≤ 100001 by rw [vN_len]; omega) (by decide), fun b nb => ?_⟩⟩
    have nbF : b ≠ FF := (ne_of_none (sameN n0' _ _ gF3) nb).symm
    have sb := (sameN (o := .lst [.int 0]) n0').trans (sameN (o := .lst ([.int 0] ++ vN (tops ns))) nb)
    have gb := upd_same (H := upd H3 t0 (.lst [.int 0])) (a := b) (o := .lst ([.int 0] ++ vN (tops ns)))
    generalize upd (upd H3 t0 (.lst [.int 0])) b (.lst ([.int 0] ++ vN (tops ns))) = H4 at sb gb ⊢
    refine ⟨.ref D, rfl, .ref a, rfl, a, us, rfl, .inl (.inl (.inl (sb _ _ hT3))), (show 1 ≤ sizeLine from by decide), fun t1 n1 => ⟨D, t1, vN (tops ns), _, rfl, rfl, sameN n1 _ _ (sb _ _ gD), upd_same, Nat.le_trans (show (vN (tops ns)).length + 1 ≤ 100001 by rw [vN_len]; omega) (by decide), fun e ne => ?_⟩⟩
    have neF : e ≠ FF := (ne_of_none (sameN n1 _ _ (sb _ _ gF3)) ne).symm
    have se := (sameN (o := .lst [.int ((us.length : Nat) : Int)]) n1).trans (sameN (o := .lst (vN (tops ns) ++ [.int ((us.length : Nat) : Int)])) ne)
    have ge := upd_same (H := upd H4 t1 (.lst [.int ((us.length : Nat) : Int)])) (a := e) (o := .lst (vN (tops ns) ++ [.int ((us.length : Nat) : Int)]))
    have gb5 := se _ _ gb
    have s35 := sb.trans se
    have gF5 := s35 _ _ gF3
    have hT5 := s35 _ _ hT3
    have hN5 := hN3.up (.of (K := K) s35)
    have s15 := s13.trans s35
    generalize upd (upd H4 t1 (.lst [.int ((us.length : Nat) : Int)])) e (.lst (vN (tops ns) ++ [.int ((us.length : Nat) : Int)])) = H5 at gb5 ge gF5 hT5 hN5 s15 ⊢
    have gb6 : H5 b = some (.lst (vN ((M10.sts ns.length 0 (tops ns)).map (·.1)))) := by
      rw [M10.sts_fst]
      exact gb5
    have ge6 : H5 e = some (.lst (vN ((M10.sts ns.length 0 (tops ns)).map (·.2)))) := by
      rw [M10.sts_snd, vN_app, ← hlu]
      exact ge
    have sgap := M10.sts_gap gap
    unfold pieces M10.pcs at lp q
    generalize M10.sts ns.length 0 (tops ns) = st at gb6 ge6 lp q sgap
    refine ⟨b, e, _, _, rfl, .inl ⟨.inl (.inl gb6), .inl (.inl ge6), ?_⟩⟩
    refine for_zipL (xs := vN (st.map (·.1))) (ys := vN (st.map (·.2))) (by simp) (fun i σ H' => ∃ ws y4 y5, σ = [some (.ref a), some (.ref p), some (.ref FF), some (.ref D), y4, y5, none] ∧ H' FF = some (.lst ws) ∧ PcsV K H' ns ws ((st.take i).flatMap M10.stz) ∧ But FF H5 H')
      ⟨[], none, none, rfl, gF5, .nil, .refl FF H5⟩ (fun i σ H' hp' => ?_) (fun i x y T σ H' hx hy hp' nT => ?_) (fun σ H' hp' => ?_)
    · obtain ⟨_, _, _, _, _, _, b4⟩ := hp'
      exact ⟨.inl (.inl (b4.at nbF gb6)), .inl (.inl (b4.at neF ge6))⟩
    · obtain ⟨ws, y4, y5, rfl, gF, pV, b4⟩ := hp'
      obtain ⟨z, hz, rfl⟩ : ∃ z, st[i]? = some z ∧ x = .int (z.1 : Nat) := by
        rw [List.getElem?_map, List.getElem?_map, Option.map_map] at hx
        obtain ⟨z, hz, rfl⟩ := Option.map_eq_some_iff.mp hx
        exact ⟨z, hz, rfl⟩
      have ey : y = .int (z.2 : Nat) := by
        rw [List.getElem?_map, List.getElem?_map, hz] at hy
        exact (Option.some.inj hy).symm
      subst ey
      have hzb := sgap z (List.mem_of_getElem? hz)
      have tk : st.take (i + 1) = st.take i ++ [z] := take_more hz
      have tg : (st.take (i + 1)).flatMap M10.stz = (st.take i).flatMap M10.stz ++ M10.stz z := by
        rw [tk, List.flatMap_append]
        simp
      have tle := flat_le (i := i + 1) lp
      rw [tg] at tle
      have sT := sameN (o := .tup [V.int (z.1 : Nat), .int (z.2 : Nat)]) nT
      refine ⟨T, [.int (z.1 : Nat), .int (z.2 : Nat)], rfl, .inl (.inl upd_same), rfl, _, [.int (z.2 : Nat)], rfl, _, [], rfl, rfl, ?_⟩
      refine ⟨fun m' σ H'' => ∃ bb ws' dn, m' = z.2 - bb ∧ bb + 2 ≤ z.2 ∧ σ = [some (.ref a), some (.ref p), some (.ref FF), some (.ref D), some (.int (bb : Nat)), some (.int (z.2 : Nat)), none] ∧ H'' FF = some (.lst ws') ∧ PcsV K H'' ns ws' dn ∧
          dn ++ M10.str (z.2 - bb) bb = (st.take i).flatMap M10.stz ++ M10.stz z ∧ But FF H5 H'', ⟨_, z.1, ws, _, rfl, hzb.1, rfl, sT _ _ gF, pV.up (.of sT), rfl, b4.trans (Same.but sT)⟩, ?_⟩
      rintro m' σ H6 ⟨bb, ws', dn, rfl, hb2, rfl, gF6, pV6, ed, b6⟩
      have hT6 : H6 a = some (.lst us) := b6.at naF hT5
      have hN6 : NdsV K H6 us ns := hN5.up (b6.tups gF5)
      have ldn : dn.length ≤ ns.length := by
        have := congrArg List.length ed
        rw [List.length_append] at this
        omega
      have lws : ws'.length ≤ 100000 := by rw [pV6.1]; omega
      refine ⟨_, rfl, _, rfl, _, _, rfl, rfl, _, _, rfl, rfl, _, rfl, ite2 (fun e' => ?_) (fun e' => ?_)⟩
      · have e4 : 4 ≤ z.2 - bb := by
          have := of_decide_eq_true e'
          omega
        refine ⟨fun σ' H'' => ∃ ws2 dn2, σ' = [some (.ref a), some (.ref p), some (.ref FF), some (.ref D), some (.int ((bb + 2 : Nat) : Int)), some (.int (z.2 : Nat)), none] ∧ H'' FF = some (.lst ws2) ∧ PcsV K H'' ns ws2 dn2 ∧
          dn2 ++ M10.str (z.2 - (bb + 2)) (bb + 2) = (st.take i).flatMap M10.stz ++ M10.stz z ∧ But FF H5 H'', fun σ' H'' hN => ?_, ?_⟩
        · obtain ⟨ws2, dn2, k1, k2, k3, k4, k5⟩ := hN
          exact ⟨z.2 - (bb + 2), by omega, bb + 2, ws2, dn2, rfl, by omega, k1, k2, k3, k4, k5⟩
        refine ⟨.ref FF, rfl, .inl ⟨rfl, _, .inl (.inl gF6)⟩, .ref a, rfl, _, rfl, _, rfl, _, rfl, _, 2, rfl, rfl, _, rfl, slice_anyL (e := bb + 2) hT6 (by omega) (by omega) fun H7' t7' s7' h7' => ⟨t7', _, rfl, .inl ⟨.inl (.inl h7'), fun t7 n7 => ?_⟩⟩⟩
        have s7 := s7'.trans (sameN (o := .tup ((us.take (bb + 2)).drop bb)) n7)
        have h7 : SqT K (upd H7' t7 (.tup ((us.take (bb + 2)).drop bb))) t7 ((us.take (bb + 2)).drop bb) := .inl (.inl upd_same)
        generalize upd H7' t7 (.tup ((us.take (bb + 2)).drop bb)) = H7 at s7 h7 ⊢
        have gF7 := s7 _ _ gF6
        have t9 : Tups K H7 (upd H7 FF (.lst (ws' ++ [.ref t7]))) := (But.set (p := FF)).tups gF7
        refine ⟨FF, _, _, rfl, rfl, gF7, line5 lws, _, rfl, _, 2, rfl, rfl, ws' ++ [.ref t7], dn ++ [(bb, bb + 2)], rfl, upd_same, ?_, ?_, (b6.trans (Same.but s7)).trans .set⟩
        · exact ((pV6.up (.of (K := K) s7)).app (z := (bb, bb + 2)) h7 (ndsV_drop bb ((hN6.up (.of (K := K) s7)).take (bb + 2)))).up t9
        · rw [← ed, str_step e4, show z.2 - bb - 2 = z.2 - (bb + 2) by omega]
          simp
      · have e4 : z.2 - bb < 4 := by
          have : ¬ (3 : Int) < (z.2 : Nat) - (bb : Nat) := fun c => e' (decide_eq_true c)
          omega
        refine ⟨.ref FF, rfl, .inl ⟨rfl, _, .inl (.inl gF6)⟩, .ref a, rfl, _, rfl, _, rfl, _, rfl, _, rfl, slice_anyL (e := z.2) hT6 (by omega) (by omega) fun H7' t7' s7' h7' => ⟨t7', _, rfl, .inl ⟨.inl (.inl h7'), fun t7 n7 => ?_⟩⟩⟩
        have s7 := s7'.trans (sameN (o := .tup ((us.take z.2).drop bb)) n7)
        have h7 : SqT K (upd H7' t7 (.tup ((us.take z.2).drop bb))) t7 ((us.take z.2).drop bb) := .inl (.inl upd_same)
        generalize upd H7' t7 (.tup ((us.take z.2).drop bb)) = H7 at s7 h7 ⊢
        have gF7 := s7 _ _ gF6
        have t9 : Tups K H7 (upd H7 FF (.lst (ws' ++ [.ref t7]))) := (But.set (p := FF)).tups gF7
        refine ⟨FF, _, _, rfl, rfl, gF7, line5 lws, ws' ++ [.ref t7], _, _, rfl, upd_same, ?_, (b6.trans (Same.but s7)).trans .set⟩
        rw [tg, ← ed, str_last e4, show bb + (z.2 - bb) = z.2 by omega]
        exact ((pV6.up (.of (K := K) s7)).app (z := (bb, z.2)) h7 (ndsV_drop bb ((hN6.up (.of (K := K) s7)).take z.2))).up t9
    · obtain ⟨ws, y4, y5, rfl, gF, pV, b4⟩ := hp'
      have full : st.take (vN (st.map (·.1))).length = st := List.take_of_length_le (by simp)
      rw [full] at pV
      have nFH : H FF = none := freeS s1 nF
      exact ⟨_, rfl, q H' FF ws (fun c o hc => b4 c o (ne_of_none hc nFH) (s15 _ _ hc)) gF pV⟩
end
section
variable {P : Program} {w : World} {K : PySem.W.Frag} {mg : Str → Option Value} {base : Heap}
theorem scJoined : FnScope ["nodes", "found", "node", "count"] ["nodes"] (defScope sJoined) := ⟨rfl, rfl, rfl, by decide +kernel, rfl, by decide +kernel, by decide +kernel⟩
def spJoined (K : PySem.W.Frag) : Sp := fun vs H Q _ => ∃ (a : Addr) (us : List V) (ns : List Nd) (l : Nat), vs = [.ref a] ∧ SqL K H a us ∧ NdsV K H us ns ∧ OkAll ns l ∧ l ≤ 20 ∧ ns.length ≤ 100000 ∧
  ∀ H' p ws, Same H H' → H p = none → H' p = some (.lst ws) → NdsV K H' ws (mkRuns ns) → Q (.ref p) H'
theorem ok_joined {f : Addr} {fd : FuncData} {k : Nat} (F : Fun K "_law_joined" "_law_joined" sJoined f fd) : FnOk P w K mg base CX0 (k + 1) f fd ["nodes"] (spJoined K) := by
  refine F.ok scJoined (fun vs H Q E h => ?_) (fun cdv A outer s H vs Q E hr h => ?_)
  · obtain ⟨a, us, ns, l, rfl, _⟩ := h
    rfl
  · obtain ⟨a, us, ns, l, rfl, hS, hn, ok, l20, hlen, q⟩ := h
    refine ⟨_, pss_cons (ps_set (i := 1) scJoined.nd rfl (.inl rfl) (pe_lst pa_nil))
      (pss_cons (ps_for PassesOwn.never rfl (pi_list (pv 0)) (pg_name (i := 2) scJoined.nd rfl (.inl rfl))
        (pss_one (ps_if (PW.pt (pw_and (pt_cmpR (op_neD hr.units) (pv 1) (pe_lst pa_nil) (nomark _)) (pw_and1 (pt_cmpR (op_eqD hr.units) (pe_ix ix_tup (pe_ix ix_list (pv 1) (pe_un un_neg pe_int) (fun _ _ => rfl)) pe_int (fun _ _ => rfl)) (pv 2) (nomark _)))))
          (pss_one (ps_asg (pe_tup (pa_cons (pv 2) (pa_cons (pe_op op_add (pe_ix ix_tup (pe_ix ix_list (pv 1) (pe_un un_neg pe_int) (fun _ _ => rfl)) pe_int (fun _ _ => rfl)) pe_int) pa_nil))) (pg_sub (pv 1) (pe_un un_neg pe_int) set_list)))
          (pss_one (ps_expr (pe_bm PySem.F.plainAttrs_list PySem.F.slot_list_append PySem.F.type_list_append mt_append (pv 1) (pa_cons (pe_tup (pa_cons (pv 2) (pa_cons pe_int pa_nil))) pa_nil)))))))
      (pss_one (ps_ret (pe_lc (own := [("node", 2), ("count", 3)]) (g := gTup K 2 (gCons (gName 2) (gCons (gName 3) gNil))) (tt := tYes) rfl scJoined.nd (pi_list (pv 1))
        (blkOk_by (N := ["nodes", "found", "node", "count"]) (sc := defScope sJoined) (by decide +kernel))
        (fun _ _ _ _ _ => pg_tup rfl (pgs_cons (pg_name (i := 2) scJoined.nd rfl (Or.inl rfl) (hf := Or.inr rfl)) (pgs_cons (pg_name (i := 3) scJoined.nd rfl (Or.inl rfl) (hf := Or.inr rfl)) pgs_nil))) (fun _ _ _ _ _ => pts_nil)
        (fun _ _ _ _ _ => pe_ifExp (pt_cmpR op_eq (pv 3) pe_int (nomark _)) (pv 2) (pe_tup (pa_cons pe_str (pa_cons (pv 2) (pa_cons (pv 3) pa_nil))))))))), ?_⟩
    have hlu := hn.len
    refine ⟨(show 0 ≤ sizeLine from by decide), fun F0 hF => ?_⟩
    have s0 := sameN (o := .lst []) hF
    refine ⟨.ref a, rfl, a, rfl, ⟨us, s0.seq hS⟩, ?_⟩
    refine for_list (xs := us) (fun i σ H' => ∃ ws y2 y3, σ = [some (.ref a), some (.ref F0), y2, y3] ∧ H' F0 = some (.lst ws) ∧ PrsV K H' ws (grp (ns.take i)) ∧ Same H H') ⟨[], none, none, rfl, upd_same, ?_, s0⟩ (fun i σ H' _ hp => ?_) (fun i x σ H1 hx hp => ?_) (fun σ H' hp => ?_)
    · rw [List.take_zero]
      exact .nil
    · obtain ⟨_, _, _, _, _, _, e⟩ := hp
      exact e.seq hS
    · obtain ⟨ws, y2, y3, rfl, e1, e2, s1⟩ := hp
      obtain ⟨n, hni, kn⟩ := (hn.up (.of s1)).get hx
      have okn := ok.mem n (List.mem_of_getElem? hni)
      have okg : ∀ p ∈ grp (ns.take i), Ok p.1 l := fun p hp => ok.mem _ (List.mem_of_mem_take (grp_foot _ p hp).1)
      have lw : ws.length < sizeLine := by
        rw [DpAll.len e2, List.length_map]
        have g1 := grp_len (ns.take i)
        rw [List.length_take] at g1
        exact line5 (by omega)
      have gm := grp_more ns i n hni
      refine ifs_any (fun b H' => Same H1 H' ∧ (b = true → ∃ r c, grp (ns.take i) = r ++ [(n, c)]) ∧ (b = false → ∀ m c, (grp (ns.take i)).getLast? = some (m, c) → m ≠ n)) (fun b H2 hS2 => ?_) (fun R hR => ?_)
      · obtain ⟨s2, nb1, nb2⟩ := hS2
        have f2 := s2 _ _ e1
        have d2 := e2.up (.of s2)
        cases b with
        | true =>
          obtain ⟨r, c, er⟩ := nb1 rfl
          rw [er] at d2
          obtain ⟨w1, ra, u, rfl, k1, t1, t2⟩ := d2.split
          · skip
            refine ⟨x, rfl, .ref F0, rfl, 1, rfl, F0, _, -1, .ref ra, rfl, rfl, .inl (.inl f2), atI_last _ _, ra, _, 1, .int c, rfl, rfl, t1, rfl, c, 1, rfl, rfl, (show 2 ≤ sizeLine from by decide), fun t ht => ?_⟩
            have s3 := sameN (o := .tup [x, .int ((c : Int) + 1)]) ht
            have f3 := s3 _ _ f2
            refine ⟨.ref F0, rfl, 1, rfl, F0, w1 ++ [.ref ra], -1, w1.length, rfl, rfl, f3, ?_, w1 ++ [.ref t], _, _, rfl, ?_, ?_, sameW (s1.trans (s2.trans s3)) hF⟩
            · rw [List.length_append]
              exact ixN_last
            · rw [upd_same, List.set_append_right _ _ (Nat.le_refl _)]
              simp
            · rw [gm, er, stepG_eq]
              have tt : Tups K (upd H2 t (.tup [x, .int ((c : Int) + 1)])) (upd (upd H2 t (.tup [x, .int ((c : Int) + 1)])) F0 (.lst ((w1 ++ [V.ref ra]).set w1.length (V.ref t)))) := (But.set (p := F0)).tups f3
              refine PrsV.app (PrsV.up tt (PrsV.up (.of s3) k1)) (PrsV.one (p := (n, c + 1)) (tt _ _ (.inl (.inl ?_))) (((kn.up (.of s2)).up (.of s3)).up tt))
              rw [upd_same]
              exact congrArg (fun z => some (HO.tup [x, z])) (int_congr (by omega))
        | false =>
          have ne := stepG_ne (nb2 rfl)
          refine ⟨.ref F0, rfl, .inl ⟨rfl, _, .inl (.inl f2)⟩, x, rfl, (show 2 ≤ sizeLine from by decide), fun t ht => ?_⟩
          have s3 := sameN (o := .tup [x, .int 1]) ht
          have f3 := s3 _ _ f2
          refine ⟨F0, _, _, rfl, rfl, f3, lw, ws ++ [.ref t], _, _, rfl, upd_same, ?_, sameW (s1.trans (s2.trans s3)) hF⟩
          rw [gm, ne]
          have tt : Tups K (upd H2 t (.tup [x, .int 1])) (upd (upd H2 t (.tup [x, .int 1])) F0 (.lst (ws ++ [.ref t]))) := (But.set (p := F0)).tups f3
          exact PrsV.app (PrsV.up tt (PrsV.up (.of s3) d2)) (PrsV.one (p := (n, 1)) (tt _ _ (.inl (.inl upd_same))) (((kn.up (.of s2)).up (.of s3)).up tt))
      · refine ⟨.ref F0, rfl, (show 0 ≤ sizeLine from by decide), fun l9 hl9 => ⟨_, _, .lst (.inl (.inl ?_)) (e2.up (.of (sameN hl9))), .lst (.inl (.inl upd_same)) .nil, shaped_prs okg l20, shaped_nil, _, rfl, ?_⟩⟩
        · rw [upd_ne (ne_of_none e1 hl9)]
          exact e1
        · rw [eqv_emptyP]
          have s9 := sameN (o := .lst []) hl9
          rcases List.eq_nil_or_concat (grp (ns.take i)) with z | ⟨init, ⟨m, c⟩, z⟩
          · rw [z]
            exact hR _ _ ⟨s9, (fun z => nomatch z), fun _ m c hm => by rw [z] at hm; cases hm⟩
          · rw [List.concat_eq_append] at z
            have d9 := e2.up (.of s9)
            rw [z] at d9
            obtain ⟨w1, ra, u, rfl, k1, t1, t2⟩ := d9.split
            · skip
              have okm : Ok m l := okg (m, c) (by rw [z]; simp)
              have z0 : (grp (ns.take i)).isEmpty = false := by rw [z]; simp
              rw [z0]
              refine ⟨.ref F0, rfl, 1, rfl, F0, _, -1, .ref ra, rfl, rfl, .inl (.inl (s9 _ _ e1)), atI_last _ _, ra, _, 0, u, rfl, rfl, t1, rfl, x, rfl, _, _, t2, kn.up (.of s9), shaped_dat okm l20, shaped_dat okn l20, _, rfl, hR _ _ ⟨s9, fun eb => ?_, fun eb m' c' hm => ?_⟩⟩
              · have : m = n := (eqv_dat _ _).mp eb
                exact ⟨init, c, by rw [z, this]⟩
              · rw [z, List.getLast?_append] at hm
                have : m = m' ∧ c = c' := by simpa using hm
                rw [← this.1]
                intro eq
                rw [eqv_yes eq] at eb
                cases eb
    · obtain ⟨ws, y2, y3, rfl, e1, e2, s1⟩ := hp
      rw [hlu, List.take_length] at e2
      have lz : (grp ns).length ≤ 100000 := Nat.le_trans (grp_len ns) hlen
      refine ⟨.ref F0, rfl, F0, rfl, ⟨_, .inl (.inl e1)⟩, fun D nD => ?_⟩
      refine lc_list (xs := ws) (fun i Hd => ∃ vs', Hd D = some (.lst vs') ∧ NdsV K Hd vs' (((grp ns).take i).map mkRun) ∧ Same H' Hd) ⟨[], upd_same, ?_, sameN nD⟩ (fun i Hd _ hp => ?_) (fun i v Hd hv hp => ?_) (fun Hd hp => ?_)
      · rw [List.take_zero]
        exact .nil
      · obtain ⟨_, _, _, e⟩ := hp
        exact .inl (.inl (e _ _ e1))
      · obtain ⟨vs', g1, g2, s2⟩ := hp
        obtain ⟨p, ra, u, hpi, rfl, t1, t2⟩ := (e2.up (.of s2)).get hv
        have tm : ((grp ns).take (i + 1)).map mkRun = ((grp ns).take i).map mkRun ++ [mkRun p] := by
          rw [take_more hpi, List.map_append]
          rfl
        have lv : vs'.length < sizeLine := by
          rw [g2.len, List.length_map]
          exact line5 (small_take lz)
        refine ⟨ra, _, rfl, t1, rfl, u, _, rfl, _, [], rfl, rfl, rfl, ?_⟩
        refine ⟨_, rfl, rfl, _, rfl, ite2 (fun e => ?_) (fun e => ?_)⟩
        · have e0 : (p.2 : Int) = 1 := V.int.inj (of_decide_eq_true e)
          have e3 : p.2 = 1 := by omega
          refine ⟨u, rfl, vs', g1, lv, vs' ++ [u], upd_same, ?_, sameW s2 nD⟩
          have tt : Tups K Hd (upd Hd D (.lst (vs' ++ [u]))) := (But.set (p := D)).tups g1
          rw [tm]
          refine (g2.up tt).app (.one ?_)
          unfold mkRun
          rw [if_pos e3]
          exact t2.up tt
        · have e3 : p.2 ≠ 1 := fun z => e (by rw [z]; rfl)
          refine ⟨u, rfl, _, rfl, (show 3 ≤ sizeLine from by decide), fun t ht => ?_⟩
          have s3 := sameN (o := .tup [.str "run", u, .int (p.2 : Int)]) ht
          refine ⟨vs', s3 _ _ g1, lv, vs' ++ [.ref t], upd_same, ?_, sameW (s2.trans s3) nD⟩
          have tt : Tups K (upd Hd t (.tup [.str "run", u, .int (p.2 : Int)])) (upd (upd Hd t (.tup [.str "run", u, .int (p.2 : Int)])) D (.lst (vs' ++ [.ref t]))) := (But.set (p := D)).tups (s3 _ _ g1)
          rw [tm]
          refine ((g2.up (.of s3)).up tt).app (.one ?_)
          unfold mkRun
          rw [if_neg e3]
          exact .ofRun (tt _ _ (.inl (.inl upd_same))) ((t2.up (.of s3)).up tt)
      · obtain ⟨vs', g1, g2, s2⟩ := hp
        rw [e2.len, List.take_length] at g2
        exact q _ D vs' (s1.trans s2) (by
          cases z : H D with
          | none => rfl
          | some u =>
            rw [s1 _ _ z] at nD
            cases nD) g1 g2
end
/-! ### rows as data -/
section
variable {K : PySem.W.Frag}
def rws (rs : List (List Nd)) : List PyData := rs.map fun r => .tuple (datAll r)
theorem dpAll_of {H : Hp} : ∀ {ds : List PyData} {ws : List V}, ws.length = ds.length → (∀ (i : Nat) v d, ws[i]? = some v → ds[i]? = some d → Dp K H v d) → DpAll K H ws ds
  | [], [], _, _ => .nil
  | [], _ :: _, h, _ => by cases h
  | _ :: _, [], h, _ => by cases h
  | d :: ds, v :: ws, h, k => .cons (k 0 v d rfl rfl) (dpAll_of (by simpa using h) fun i v' d' h1 h2 => k (i + 1) v' d' (by simpa using h1) (by simpa using h2))
noncomputable def rlist (r0 : List Nd) (t : Nat) : List (List Nd) := (List.range t).map fun j => nx j r0
theorem RowsV.dp {H : Hp} {r0 : List Nd} {ws : List V} {t : Nat} (h : RowsV K H r0 ws t) : DpAll K H ws (rws (rlist r0 t)) := by
  refine dpAll_of (by rw [h.1]; unfold rws rlist; simp) fun i v d hv hd => ?_
  obtain ⟨ra, us, rfl, h1, h2⟩ := h.2 i v hv
  unfold rws rlist at hd
  rw [List.map_map, List.getElem?_map] at hd
  obtain ⟨j, hj, rfl⟩ := Option.map_eq_some_iff.mp hd
  have e : j = i := by
    have := List.getElem?_range (show i < t from by have := (List.getElem?_eq_some_iff.mp hj).1; simpa using this)
    rw [this] at hj
    exact (Option.some.inj hj).symm
  subst e
  exact .tup h1 h2
theorem shaped_rows (rs : List (List Nd)) (h : ∀ r ∈ rs, ∃ j, j ≤ 20 ∧ OkAll r j) : SeqAt.shaped (.list (rws rs)) = true := by
  have key : ∀ rs : List (List Nd), (∀ r ∈ rs, ∃ j, j ≤ 20 ∧ OkAll r j) → PyData.canLayAll0 (rws rs) = true ∧ PyData.depthAll (rws rs) ≤ 63 := by
    intro rs
    induction rs with
    | nil => exact fun _ => ⟨rfl, by simp [rws, PyData.depthAll]⟩
    | cons r rs ih =>
      intro h
      obtain ⟨j, hj, ok⟩ := h r List.mem_cons_self
      obtain ⟨i1, i2⟩ := ih fun x hx => h x (List.mem_cons_of_mem _ hx)
      have s := (shaped_all ok hj).2
      have d := depth_datAll r j ok
      unfold SeqAt.shaped at s
      rw [Bool.and_eq_true] at s
      show PyData.canLayAll0 (.tuple (datAll r) :: rws rs) = true ∧ PyData.depthAll (.tuple (datAll r) :: rws rs) ≤ 63
      refine ⟨?_, ?_⟩
      · simp only [PyData.canLayAll0, Bool.and_eq_true]
        exact ⟨s.1, i1⟩
      · simp only [PyData.depthAll, PyData.depth]
        omega
  obtain ⟨k1, k2⟩ := key rs h
  unfold SeqAt.shaped
  rw [Bool.and_eq_true]
  refine ⟨by simpa [PyData.canLay0] using k1, decide_eq_true ?_⟩
  simp only [PyData.depth]
  omega
theorem eqv_rows0 (rs : List (List Nd)) : PyData.eqv (.list (rws rs)) (.list []) = rs.isEmpty := by
  cases rs <;> simp [rws, PyData.eqv, PyData.eqvAll]
end
section
variable {P : Program} {w : World} {K : PySem.W.Frag} {mg : Str → Option Value} {base : Heap}
abbrev nmLR : List Str := ["given", "row", "found", "one", "count", "piece"]
theorem scLRows : FnScope nmLR ["given"] (defScope sLRows) := ⟨rfl, rfl, rfl, by decide +kernel, rfl, by decide +kernel, by decide +kernel⟩
def spLRows (K : PySem.W.Frag) : Sp := fun vs H Q _ => ∃ (a : Addr) (ws : List V) (gs : List (Nd × Nat)), vs = [.ref a] ∧ SqT K H a ws ∧ PrsV K H ws gs ∧ Giv gs ∧ gs.length ≤ 300 ∧
  ∀ H' p us t, Same H H' → H' p = some (.lst us) → RowsV K H' (gs.map mkRun) us t → Top (gs.map mkRun) t → Q (.ref p) H'
theorem rowW_of {H : Hp} {ra : Addr} {us : List V} {r0 : List Nd} {j : Nat} (lv : Lv r0 j) (hT : H ra = some (.lst us)) (hn : NdsV K H us (nx j r0)) (h2 : 2 ≤ (nx j r0).length) : RowW K 16 H ra (nx j r0) := by
  have s := lv.small
  have s7 := lv.two h2
  refine ⟨us, j, hT, hn, lv.1, lv.2.1, wideL j (by omega), fun n hn => ?_, h2, by omega⟩
  have := ht_le n j (lv.1.mem n hn)
  split at this <;> omega
theorem ok_lrows {f g1 g2 : Addr} {fd e1 e2 : FuncData} (F : Fun K "_law_rows" "_law_rows" sLRows f fd) (B : FnOk P w K mg base CX0 20 g1 e1 ["row"] (spLPieces K 16)) (B' : Fun K "_law_pieces" "_law_pieces" sLPieces g1 e1) (gB : mg "_law_pieces" = some (.ref g1)) (bB : Binds K e1 ["row"] [])
    (M' : Fun K "_law_joined" "_law_joined" sJoined g2 e2) (gM : mg "_law_joined" = some (.ref g2)) (bM : Binds K e2 ["nodes"] []) (ml : mg "len" = none) (mt : mg "tuple" = none) : FnOk P w K mg base CX0 21 f fd ["given"] (spLRows K) := by
  have M : FnOk P w K mg base CX0 1 g2 e2 ["nodes"] (spJoined K) := ok_joined M'
  refine F.ok scLRows (fun vs H Q E h => ?_) (fun cdv A outer s H vs Q E hr h => ?_)
  · obtain ⟨a, ws, gs, rfl, _⟩ := h
    rfl
  · obtain ⟨a, ws, gs, rfl, hT, hP, giv, l100, q⟩ := h
    have r1 := hr.mono (j := 1) (by omega)
    refine ⟨_, pss_cons (ps_par (i := 1) (j := 2) (by rfl) scLRows.nd rfl rfl (by decide) rfl rfl (pa_cons
          (pe_lc (own := [("one", 3), ("count", 4)]) (g := gTup K 2 (gCons (gName 3) (gCons (gName 4) gNil))) (tt := tYes) rfl scLRows.nd (pi_tup (pv 0)) (blkOk_by (N := nmLR) (sc := defScope sLRows) (by decide +kernel))
            (fun _ _ _ _ _ => pg_tup rfl (pgs_cons (pg_name (i := 3) scLRows.nd rfl (Or.inl rfl) (hf := Or.inr rfl)) (pgs_cons (pg_name (i := 4) scLRows.nd rfl (Or.inl rfl) (hf := Or.inr rfl)) pgs_nil))) (fun _ _ _ _ _ => pts_nil)
            (fun _ _ _ _ _ => pe_ifExp (pt_cmpR op_eq (pv 4) pe_int (nomark _)) (pv 3) (pe_tup (pa_cons pe_str (pa_cons (pv 3) (pa_cons (pv 4) pa_nil))))))
          (pa_cons (pe_lst pa_nil) pa_nil)) (by rfl))
      (pss_cons (ps_while PassesOwn.never (pt_cmpR (op_neD hr.units) (pv 1) (pe_lst pa_nil) (nomark _))
        (pss_cons (ps_expr (pe_bm PySem.F.plainAttrs_list PySem.F.slot_list_append PySem.F.type_list_append mt_append (pv 2) (pa_cons (pe_callTy call_tuple_of (by rfl) mt PyProof.Rows.boot_tuple (pa_cons (pv 1) pa_nil)) pa_nil)))
        (pss_one (ps_set (i := 1) scLRows.nd rfl (.inl rfl) (pe_ifExp (pt_cmpR op_gt (pe_callB call_len_seq (by rfl) ml PySem.boot_len (pa_cons (pv 1) pa_nil)) pe_int (nomark _))
          (pe_call M r1 (by rfl) gM M'.kp bM .nil pass0 (pa_cons
            (pe_lc (own := [("piece", 5)]) (g := gName 5) (tt := tYes) rfl scLRows.nd (pi_list (pe_call B hr (by rfl) gB B'.kp bB .nil pass0 (pa_cons (pv 1) pa_nil))) (blkOk_by (N := nmLR) (sc := defScope sLRows) (by decide +kernel))
              (fun _ _ _ _ _ => pg_name (i := 5) scLRows.nd rfl (Or.inl rfl)) (fun _ _ _ _ _ => pts_nil) (fun _ _ _ _ _ => pe_tup (pa_cons pe_str (pa_cons (pv 5) pa_nil)))) pa_nil))
          (pe_lst pa_nil))))))
      (pss_one (ps_ret (pv 2)))), ?_⟩
    have hlw := PrsV.len hP
    refine ⟨.ref a, rfl, a, rfl, ⟨ws, hT⟩, fun D nD => ?_⟩
    refine lc_tup (xs := ws) (fun i H' => ∃ vs', H' D = some (.lst vs') ∧ NdsV K H' vs' ((gs.take i).map mkRun) ∧ Same H H') ⟨[], upd_same, .nil, sameN nD⟩ (fun i H' _ hp => ?_) (fun i u H' hu hp => ?_) (fun H1 hp => ?_)
    · obtain ⟨_, _, _, s1⟩ := hp
      exact sameT s1 hT
    · obtain ⟨vs', gD, dD, s1⟩ := hp
      obtain ⟨pr, ra, v, hpi, rfl, t1, t2⟩ := (PrsV.up (.of s1) hP).get hu
      have hil := (List.getElem?_eq_some_iff.mp hpi).1
      have lv : vs'.length < sizeLine := by
        rw [dD.len, List.length_map]
        exact line5 (small_take (by omega))
      have tm : ((gs.take (i + 1)).map mkRun) = ((gs.take i).map mkRun) ++ [mkRun pr] := by
        rw [take_more hpi, List.map_append]
        rfl
      refine ⟨ra, _, rfl, t1, rfl, v, _, rfl, _, [], rfl, rfl, rfl, ?_⟩
      refine ⟨_, rfl, rfl, _, rfl, ite2 (fun e => ?_) (fun e => ?_)⟩
      · have e0 : (pr.2 : Int) = 1 := V.int.inj (of_decide_eq_true e)
        have e3 : pr.2 = 1 := by omega
        refine ⟨v, rfl, vs', gD, lv, vs' ++ [v], upd_same, ?_, sameW s1 nD⟩
        have tt : Tups K H' (upd H' D (.lst (vs' ++ [v]))) := (But.set (p := D)).tups gD
        rw [tm]
        refine (dD.up tt).app (.one ?_)
        unfold mkRun
        rw [if_pos e3]
        exact t2.up tt
      · have e3 : pr.2 ≠ 1 := fun z => e (by rw [z]; rfl)
        refine ⟨v, rfl, _, rfl, (show 3 ≤ sizeLine from by decide), fun t nt => ?_⟩
        have s3 := sameN (o := .tup [.str "run", v, .int (pr.2 : Int)]) nt
        refine ⟨vs', s3 _ _ gD, lv, vs' ++ [.ref t], upd_same, ?_, sameW (s1.trans s3) nD⟩
        have tt : Tups K (upd H' t (.tup [.str "run", v, .int (pr.2 : Int)])) (upd (upd H' t (.tup [.str "run", v, .int (pr.2 : Int)])) D (.lst (vs' ++ [.ref t]))) := (But.set (p := D)).tups (s3 _ _ gD)
        rw [tm]
        refine ((dD.up (.of s3)).up tt).app (.one ?_)
        unfold mkRun
        rw [if_neg e3]
        exact .ofRun (tt _ _ (.inl (.inl upd_same))) ((t2.up (.of s3)).up tt)
    obtain ⟨vs', gD, dD, s1⟩ := hp
    have full : gs.take ws.length = gs := List.take_of_length_le (by rw [hlw]; exact Nat.le_refl _)
    rw [full] at dD
    have lv0 : gs.map mkRun ≠ [] → Lv (gs.map mkRun) 0 := fun z => giv_row0 giv (fun y => z (by rw [y]; rfl)) l100
    generalize gs.map mkRun = r0 at q dD lv0
    refine ⟨(show 0 ≤ sizeLine from by decide), fun L nL => ⟨_, _, rfl, ?_⟩⟩
    have sL := sameN (o := .lst []) nL
    have nLH : H L = none := freeS s1 nL
    refine ⟨fun m' σ H' => ∃ ra us rv, σ = [some (.ref a), some (.ref ra), some (.ref L), none, none, none] ∧ H' ra = some (.lst us) ∧ ra ≠ L ∧ H' L = some (.lst rv) ∧ Same H H' ∧
        ((∃ j, m' = (nx j r0).length + 1 ∧ r0 ≠ [] ∧ (∀ i, i < j → 1 < (nx i r0).length) ∧ Lv r0 j ∧ NdsV K H' us (nx j r0) ∧ RowsV K H' r0 rv j) ∨ (∃ t, m' = 0 ∧ us = [] ∧ RowsV K H' r0 rv t ∧ Top r0 t)), ?_, ?_⟩
    · have ne : D ≠ L := ne_of_none gD nL
      by_cases z : r0 = []
      · have e0 : vs' = [] := by
          rw [z] at dD
          exact dD.inv0
        exact ⟨0, D, vs', [], rfl, sL _ _ gD, ne, upd_same, s1.trans sL, .inr ⟨0, rfl, e0, .nil, .inl ⟨z, rfl⟩⟩⟩
      · exact ⟨_, D, vs', [], rfl, sL _ _ gD, ne, upd_same, s1.trans sL, .inl ⟨0, rfl, z, (fun i hi => absurd hi (Nat.not_lt_zero _)), lv0 z, dD.up (.of sL), .nil⟩⟩
    rintro m' σ H2 ⟨ra, us, rv, rfl, k1, kne, k3, k5, hc⟩
    rcases hc with ⟨j, rfl, rne, hj, lv, k2, k4⟩ | ⟨t, rfl, rfl, k4, tp⟩
    · have sm := lv.small
      have lus := k2.len
      refine ⟨.ref ra, rfl, (show 0 ≤ sizeLine from by decide), fun l9 hl9 => ⟨_, _, .lst (.inl (.inl (sameN hl9 _ _ k1))) (k2.up (.of (sameN hl9))), .lst (.inl (.inl upd_same)) .nil, (shaped_all lv.1 (by omega)).1, shaped_nil, _, rfl, ?_⟩⟩
      have emp : (nx j r0).isEmpty = false := by
        cases hn : nx j r0 with
        | nil =>
          have := lv.2.2.1
          rw [hn] at this
          cases this
        | cons x r => rfl
      rw [eqv_emptyN, emp]
      have s9 := sameN (o := .lst []) hl9
      have k1' := s9 _ _ k1
      have k3' := s9 _ _ k3
      have k2' := k2.up (.of (K := K) s9)
      have k4' := k4.up (.of (K := K) s9)
      have k5' := k5.trans s9
      generalize upd H2 l9 (.lst []) = H3 at k1' k3' k2' k4' k5' ⊢
      refine ⟨fun σ' H' => ∃ ra us rv, σ' = [some (.ref a), some (.ref ra), some (.ref L), none, none, none] ∧ H' ra = some (.lst us) ∧ ra ≠ L ∧ H' L = some (.lst rv) ∧ Same H H' ∧
        ((2 ≤ (nx j r0).length ∧ NdsV K H' us (nx (j + 1) r0) ∧ RowsV K H' r0 rv (j + 1)) ∨ ((nx j r0).length ≤ 1 ∧ us = [] ∧ RowsV K H' r0 rv (j + 1))), fun σ' H' hN => ?_, ?_⟩
      · obtain ⟨ra', us', rv', i1, i2, i3, i4, i5, hc⟩ := hN
        rcases hc with ⟨h2, i6, i7⟩ | ⟨h1, i6, i7⟩
        · have nxt := lv.next h2
          refine ⟨(nx (j + 1) r0).length + 1, by omega, ra', us', rv', i1, i2, i3, i4, i5, .inl ⟨j + 1, rfl, rne, fun i hi => ?_, nxt.1, i6, i7⟩⟩
          rcases Nat.lt_or_ge i j with z | z
          · exact hj i z
          · have : i = j := by omega
            rw [this]
            exact h2
        · exact ⟨0, by omega, ra', us', rv', i1, i2, i3, i4, i5, .inr ⟨j + 1, rfl, i6, i7, .inr ⟨rne, j, rfl, h1, hj⟩⟩⟩
      refine ⟨.ref L, rfl, .inl ⟨rfl, _, .inl (.inl k3')⟩, .ref ra, rfl, ra, us, rfl, .inl ⟨.inl (.inl k1'), fun t nt => ?_⟩⟩
      have st := sameN (o := .tup us) nt
      have k3t := st _ _ k3'
      have t9 : Tups K (upd H3 t (.tup us)) (upd (upd H3 t (.tup us)) L (.lst (rv ++ [.ref t]))) := (But.set (p := L)).tups k3t
      refine ⟨L, _, _, rfl, rfl, k3t, line5 (by rw [k4'.1]; omega), ?_⟩
      have nLt : t ≠ L := (ne_of_none k3' nt).symm
      have rows' : RowsV K (upd (upd H3 t (.tup us)) L (.lst (rv ++ [.ref t]))) r0 (rv ++ [.ref t]) (j + 1) := ((k4'.up (.of st)).up t9).app (t9 _ _ (.inl (.inl upd_same))) ((k2'.up (.of st)).up t9)
      have gra : (upd (upd H3 t (.tup us)) L (.lst (rv ++ [.ref t]))) ra = some (.lst us) := by
        rw [upd_ne kne]
        exact st _ _ k1'
      have gL : (upd (upd H3 t (.tup us)) L (.lst (rv ++ [.ref t]))) L = some (.lst (rv ++ [.ref t])) := upd_same
      have s4 : Same H (upd (upd H3 t (.tup us)) L (.lst (rv ++ [.ref t]))) := sameW (k5'.trans st) nLH
      have k24 : NdsV K (upd (upd H3 t (.tup us)) L (.lst (rv ++ [.ref t]))) us (nx j r0) := (k2'.up (.of st)).up t9
      generalize upd (upd H3 t (.tup us)) L (.lst (rv ++ [.ref t])) = H4 at rows' gra gL s4 k24 ⊢
      generalize rv ++ [V.ref t] = rv at rows' gL
      refine ⟨.ref ra, rfl, ra, us, rfl, .inl (.inl (.inl gra)), _, 1, rfl, rfl, _, rfl, ite2 (fun e => ?_) (fun e => ?_)⟩
      · have h2 : 2 ≤ (nx j r0).length := by
          have := of_decide_eq_true e
          omega
        have lp := pieces_fst_len h2
        refine ⟨.ref ra, rfl, ra, nx j r0, rfl, rowW_of lv gra k24 h2, fun H6 pp ps s6 hpp pV => ⟨pp, rfl, ⟨ps, .inl (.inl hpp)⟩, fun D2 nD2 => ?_⟩⟩
        refine lc_list (xs := ps) (fun i H' => ∃ vs', H' D2 = some (.lst vs') ∧ NdsV K H' vs' (((pieces (nx j r0)).take i).map fun z => Nd.blk (pce (nx j r0) z)) ∧ Same H6 H') ⟨[], upd_same, .nil, sameN nD2⟩ (fun i H' _ hp => ?_) (fun i u H' hu hp => ?_) (fun H' hp => ?_)
        · obtain ⟨_, _, _, s7⟩ := hp
          exact .inl (.inl (s7 _ _ hpp))
        · obtain ⟨vs', gD, dD, s7⟩ := hp
          obtain ⟨z, t6, us6, hz, rfl, ht6, hn6⟩ := pV.2 i u hu
          have hil := (List.getElem?_eq_some_iff.mp hz).1
          have tk : (pieces (nx j r0)).take (i + 1) = (pieces (nx j r0)).take i ++ [z] := take_more hz
          refine ⟨rfl, _, rfl, (show 2 ≤ sizeLine from by decide), fun t8 n8 => ?_⟩
          have s8 := sameN (o := .tup [.str "block", .ref t6]) n8
          have s78 := s7.trans s8
          have nb : NdV K (upd H' t8 (.tup [.str "block", .ref t6])) (.ref t8) (.blk (pce (nx j r0) z)) := .ofBlk (.inl (.inl upd_same)) (sameT s78 ht6) (hn6.up (.of s78))
          have gD8 := s8 _ _ gD
          refine ⟨vs', gD8, ?_, vs' ++ [.ref t8], upd_same, ?_, sameW s78 nD2⟩
          · rw [dD.len, List.length_map]
            exact line5 (small_take (by omega))
          · rw [tk, List.map_append]
            have t9 : Tups K (upd H' t8 (.tup [.str "block", .ref t6])) (upd (upd H' t8 (.tup [.str "block", .ref t6])) D2 (.lst (vs' ++ [.ref t8]))) := (But.set (p := D2)).tups gD8
            exact ((dD.up (.of (K := K) s8)).up t9).app (.one (nb.up t9))
        · obtain ⟨vs', gD, dD, s7⟩ := hp
          have full : (pieces (nx j r0)).take ps.length = pieces (nx j r0) := List.take_of_length_le (by rw [pV.1]; exact Nat.le_refl _)
          rw [full] at dD
          refine ⟨D2, vs', _, j + 1, rfl, .inl (.inl gD), dD, ok_pieces lv.1 lv.2.1 h2, by omega, by rw [List.length_map]; omega, fun H8 pr rs s8 npr hr8 kr => ?_⟩
          have s68 := s6.trans (s7.trans s8)
          exact ⟨pr, rs, rv, rfl, hr8, (ne_of_none ((s6.trans s7) _ _ gL) npr).symm, s68 _ _ gL, s4.trans s68, .inl ⟨h2, kr, rows'.up (.of s68)⟩⟩
      · have h1 : (nx j r0).length ≤ 1 := by
          have : ¬ (1 : Int) < ((us.length : Nat) : Int) := fun z => e (decide_eq_true z)
          omega
        refine ⟨(show 0 ≤ sizeLine from by decide), fun l7 n7 => ⟨l7, [], rv, rfl, upd_same, (ne_of_none gL n7).symm, sameN n7 _ _ gL, s4.trans (sameN n7), .inr ⟨h1, rfl, rows'.up (.of (sameN n7))⟩⟩⟩
    · refine ⟨.ref ra, rfl, (show 0 ≤ sizeLine from by decide), fun l9 hl9 => ⟨_, _, .lst (.inl (.inl (sameN hl9 _ _ k1))) (NdsV.nil (K := K)), .lst (.inl (.inl upd_same)) .nil, shaped_nil, shaped_nil, _, rfl, ?_⟩⟩
      rw [show PyData.eqv (.list (datAll [])) (.list []) = true by rw [eqv_emptyN]; rfl]
      exact ⟨_, rfl, q _ L rv t (k5.trans (sameN hl9)) (sameN hl9 _ _ k3) (k4.up (.of (sameN hl9))) tp⟩
end
/-! ### the law's own trees -/
section
variable {P : Program} {w : World} {K : PySem.W.Frag} {mg : Str → Option Value} {base : Heap}
theorem base_lrows (X : Facts K mg) : FnOk P w K mg base CX0 21 X.ul_rows X.vl_rows ["given"] (spLRows K) := by
  have GZ : FnOk P w K mg base CX0 18 X.ul_first X.vl_first ["row"] (spLFirst K 16) := ok_lfirst X.fl_first X.fl_text X.gl_text X.bl_text X.isinstance X.int X.str 16
  have GL1 : FnOk P w K mg base CX0 1 X.ul_round X.vl_round ["some"] (spRound K) := ok_round X.fl_round X.len X.range
  have GL2 := ok_lmarks (m := 16) X.fl_marks GZ X.fl_first X.gl_first X.bl_first GL1 X.fl_round X.gl_round X.bl_round X.range
  have GL3 : FnOk P w K mg base CX0 20 X.ul_pieces X.vl_pieces ["row"] (spLPieces K 16) := ok_lpieces (m := 16) X.fl_pieces GL2 X.fl_marks X.gl_marks X.bl_marks X.range X.len X.tuple X.zip X.max
  exact ok_lrows X.fl_rows GL3 X.fl_pieces X.gl_pieces X.bl_pieces X.fl_joined X.gl_joined X.bl_joined X.len X.tuple
theorem scLTree : FnScope ["given", "rows"] ["given"] (defScope sLTree) := ⟨rfl, rfl, rfl, by decide +kernel, rfl, by decide +kernel, by decide +kernel⟩
theorem ok_ltree (X : Facts K mg) : FnOk P w K mg base CX0 22 X.ul_tree X.vl_tree ["given"] (spTreeX K) := by
  have G := base_lrows (P := P) (w := w) (base := base) X
  refine X.fl_tree.ok scLTree (fun vs H Q E h => ?_) (fun cdv A outer s H vs Q E hr h => ?_)
  · obtain ⟨a, ws, gs, rfl, _⟩ := h
    rfl
  · obtain ⟨a, ws, gs, rfl, hT, hP, giv, l300, q⟩ := h
    refine ⟨_, pss_cons (ps_set (i := 1) scLTree.nd rfl (.inl rfl) (pe_call G hr (by rfl) X.gl_rows X.fl_rows.kp X.bl_rows .nil pass0 (pa_cons (pv 0) pa_nil)))
      (pss_one (ps_ret (pe_ifExp (pt_cmpR (op_neD hr.units) (pv 1) (pe_lst pa_nil) (nomark _)) (pe_ix ix_tup (pe_ix ix_list (pv 1) (pe_un un_neg pe_int) (fun _ _ => rfl)) pe_int (fun _ _ => rfl)) pe_non))), ?_⟩
    refine ⟨.ref a, rfl, a, ws, gs, rfl, hT, hP, giv, l300, fun H1 p us t s1 hp hR top => ?_⟩
    have lus : us.length = t := hR.1
    have okr : ∀ r ∈ rlist (gs.map mkRun) t, ∃ j, j ≤ 20 ∧ OkAll r j := fun r hr => by
      rcases top with ⟨_, rfl⟩ | ⟨rne, s', rfl, h1, hj⟩
      · unfold rlist at hr
        simp at hr
      · have lv0 := giv_row0 giv (fun z => rne (by rw [z]; rfl)) l300
        unfold rlist at hr
        obtain ⟨j, hj', rfl⟩ := List.mem_map.mp hr
        have hj' : j < s' + 1 := List.mem_range.mp hj'
        have lv := lv_all lv0 j fun i hi => hj i (by omega)
        exact ⟨j, by have := lv.small.1; omega, lv.1⟩
    refine ⟨.ref p, rfl, (show 0 ≤ sizeLine from by decide), fun e ne => ⟨_, _, .lst (.inl (.inl (sameN ne _ _ hp))) ((hR.up (.of (sameN ne))).dp), .lst (.inl (.inl upd_same)) .nil, shaped_rows _ okr, shaped_nil, _, rfl, ?_⟩⟩
    rw [eqv_rows0]
    have s2 := s1.trans (sameN (o := .lst []) ne)
    have hp2 := sameN (o := .lst []) ne _ _ hp
    have hR2 := hR.up (.of (K := K) (sameN (o := .lst []) ne))
    rcases top with ⟨z, rfl⟩ | ⟨rne, s', rfl, h1, hj⟩
    · have : (rlist (gs.map mkRun) 0).isEmpty = true := rfl
      rw [this]
      exact iteF (q _ _ s2 (.inl ⟨by simpa using z, rfl⟩))
    have : (rlist (gs.map mkRun) (s' + 1)).isEmpty = false := by
      unfold rlist
      rw [List.range_succ]
      simp
    rw [this]
    have gne : gs ≠ [] := fun z => rne (by rw [z]; rfl)
    have lv0 := giv_row0 giv gne l300
    have lv := lv_all lv0 s' hj
    obtain ⟨n, en⟩ := one_node lv h1
    have okn : Ok n s' := lv.1.mem n (by rw [en]; exact List.mem_cons_self)
    have pn : prs n = gs := by
      have := prss_nx (gs := gs) (fun p hp => by
        obtain ⟨⟨k, e, _⟩, _⟩ := giv.1 p hp
        exact ⟨k, e⟩) s' hj
      rw [en, prss, prss, List.append_nil] at this
      exact this
    obtain ⟨v, hv⟩ := get_of (l := us) (i := s') (by omega)
    obtain ⟨ra, xs, rfl, hra, hx⟩ := hR2.2 s' v hv
    rw [en] at hx
    obtain ⟨u, q0, rfl, hu, _⟩ := hx.inv
    refine iteT ⟨.ref p, rfl, 1, rfl, p, us, -1, .ref ra, rfl, rfl, .inl (.inl hp2), ?_, ra, _, 0, u, rfl, rfl, hra, atI_nat (j := 0) rfl, q _ u s2 (.inr ⟨gne, n, s', hu, okn, lv.small.1, ?_, pn, en, .inr ⟨rne, s', rfl, h1, hj⟩⟩)⟩
    · rcases List.eq_nil_or_concat us with e1 | ⟨init, y, e1⟩
      · rw [e1] at lus
        cases lus
      · rw [e1, List.concat_eq_append] at hv lus ⊢
        rw [List.length_append] at lus
        have li : init.length = s' := by simpa using lus
        rw [List.getElem?_append_right (by omega), li, Nat.sub_self] at hv
        rw [Option.some.inj hv]
        exact atI_last _ _
    · have := ht_le n s' okn
      have := lv.small.1
      split at * <;> omega
end
/-! ### trees shown -/
section
variable {K : PySem.W.Frag}
theorem wide_le : ∀ j : Nat, j ≤ 8 → wide j ≤ 2000000
  | 0, _ => by decide
  | 1, _ => by decide
  | 2, _ => by decide
  | 3, _ => by decide
  | 4, _ => by decide
  | 5, _ => by decide
  | 6, _ => by decide
  | 7, _ => by decide
  | 8, _ => by decide
  | j + 9, h => by omega
theorem rep_tree {H : Hp} {v : V} {n : Nd} {l : Nat} {Q : VK} (hn : NdV K H v n) (ok : Ok n l) (h8 : l ≤ 8) (q : Q (.str (PyData.shown (dat n))) H) : rRepV K [v] H Q :=
  .inl (rep_node hn ok (by omega) (by have w := wide_le l h8; rw [sizeLine_eq]; omega) q)
end
/-! ### the text of a tree depends on its runs alone -/
section
variable {K : PySem.W.Frag}
theorem rep_treeX (gs : List (Nd × Nat)) : ∃ S : Str, ∀ (H : Hp) (u : V) (Q : VK), TreeX K H u gs → Q (.str S) H → rRepV K [u] H Q := by
  by_cases z : gs = []
  · refine ⟨"None", fun H u Q hU q => ?_⟩
    rcases hU with ⟨_, rfl⟩ | ⟨z', _⟩
    · exact .inr ⟨rfl, q⟩
    · exact absurd z z'
  · by_cases h : ∃ n l, Ok n l ∧ l ≤ 8 ∧ nx l (gs.map mkRun) = [n] ∧ Top (gs.map mkRun) (l + 1)
    · obtain ⟨n, l, okn, l8, en, top⟩ := h
      refine ⟨PyData.shown (dat n), fun H u Q hU q => ?_⟩
      rcases hU with ⟨z', _⟩ | ⟨_, n2, l2, hn2, ok2, l28, _, _, en2, top2⟩
      · exact absurd z' z
      · have := top.one top2
        have el : l2 = l := by omega
        subst el
        rw [en] at en2
        have e2 : n = n2 := by simpa using en2
        subst e2
        exact rep_tree hn2 ok2 l28 q
    · refine ⟨"", fun H u Q hU q => ?_⟩
      rcases hU with ⟨z', _⟩ | ⟨_, n2, l2, hn2, ok2, l28, _, _, en2, top2⟩
      · exact absurd z' z
      · exact absurd ⟨n2, l2, ok2, l28, en2, top2⟩ h
/-- repr(a) != repr(b), both trees of one sequence -/
theorem ne_treeX {gs : List (Nd × Nat)} {ta tb : TE} {σ : L2.St} {H : Hp} {Q : Bool → Hp → Prop} (ha : ∀ R : VK, (∀ v H', TreeX K H' v gs → Same H H' → R v H') → ta σ H R)
    (hb : ∀ H1, Same H H1 → ∀ R : VK, (∀ v H', TreeX K H' v gs → Same H1 H' → R v H') → tb σ H1 R) (q : ∀ H', Same H H' → Q false H') : tTest (tOp rNe (tCB (rRepV K) (tCons ta tNil)) (tCB (rRepV K) (tCons tb tNil))) σ H Q := by
  obtain ⟨S, rep⟩ := rep_treeX (K := K) gs
  refine cb1_any (fun v H' => TreeX K H' v gs ∧ Same H H') (fun v H1 h1 => ?_) (fun R hR => ha R fun v H' h s => hR v H' ⟨h, s⟩)
  refine rep _ _ _ h1.1 ?_
  refine cb1_any (fun v H' => TreeX K H' v gs ∧ Same H1 H') (fun v H2 h2 => ?_) (fun R hR => hb H1 h1.2 R fun v H' h s => hR v H' ⟨h, s⟩)
  refine rep _ _ _ h2.1 ⟨rfl, _, rfl, ?_⟩
  rw [dec_tt]
  exact q _ (h1.2.trans h2.2)
/-- joining two of them at a fork -/
theorem ifs_no {T : TT} {t u : TS} {D : Ends} {σ : L2.St} {H : Hp} (S : Hp → Prop) (key : ∀ H', S H' → u D σ H') (h : ∀ R : Bool → Hp → Prop, (∀ H', S H' → R false H') → T σ H R) : tIfS T t u D σ H :=
  ifs_any (fun b H' => b = false ∧ S H') (fun b H' hS => by obtain ⟨rfl, hS⟩ := hS; exact iteF (key H' hS)) (fun R hR => h R fun H' hS => hR _ _ ⟨rfl, hS⟩)
end
end C62.T

set_option Elab.async false
set_option linter.all false
set_option maxRecDepth 100000
namespace C62.U
open PySem PySem.Spec PyProof.Rows L2 Loc RZ
/-! ### the program's nodes -/
section
variable {P : Program} {w : World} {K : PySem.W.Frag} {mg : Str → Option Value} {base : Heap}
theorem len_cd5 {a : Nd} {l : Nat} (h : Ok a l) (hw : wide l ≤ 9500000) : (txt a).length ≤ 9500000 ∧ (txt a).length ≤ sizeLine := by
  have := txt_len a l h
  have : (txt a).length ≤ 9500000 := by split at this <;> omega
  exact ⟨this, Nat.le_trans this (by decide)⟩
def spIsRun (K : PySem.W.Frag) : Sp := fun vs H Q _ => ∃ v n, vs = [v] ∧ NdV K H v n ∧ ∀ H', Same H H' → Q (.bl n.isRun) H'
def spIsBlk (K : PySem.W.Frag) : Sp := fun vs H Q _ => ∃ v n, vs = [v] ∧ NdV K H v n ∧ ∀ H', Same H H' → Q (.bl n.isBlk) H'
theorem scIsRun : FnScope ["value"] ["value"] (defScope sIsRun) := ⟨rfl, rfl, rfl, by decide +kernel, rfl, by decide +kernel, by decide +kernel⟩
theorem scIsBlk : FnScope ["value"] ["value"] (defScope sIsBlk) := ⟨rfl, rfl, rfl, by decide +kernel, rfl, by decide +kernel, by decide +kernel⟩
theorem shaped_one (s : Str) (h : PyData.canLay0 (.str s) = true) : SeqAt.shaped (.tuple [.str s]) = true := by
  unfold SeqAt.shaped
  rw [Bool.and_eq_true]
  exact ⟨by simp only [PyData.canLay0, PyData.canLayAll0] at h ⊢; rw [h]; rfl, decide_eq_true (by simp [PyData.depth, PyData.depthAll])⟩
theorem eqv_one (s t : Str) : PyData.eqv (.tuple [.str s]) (.tuple [.str t]) = (s == t) := by simp [PyData.eqv, PyData.eqvAll]
theorem ok_isrun {f : Addr} {fd : FuncData} {k : Nat} (F : Fun K "is_run" "is_run" sIsRun f fd) (mi : mg "isinstance" = none) (mt : mg "tuple" = none) : FnOk P w K mg base CX0 (k + 1) f fd ["value"] (spIsRun K) := by
  refine F.ok scIsRun (fun vs H Q E h => ?_) (fun cdv A outer s H vs Q E hr h => ?_)
  · obtain ⟨v, n, rfl, _⟩ := h
    rfl
  · obtain ⟨v, n, rfl, hn, q⟩ := h
    refine ⟨_, pss_one (ps_ret (pe_and (pe_callB call_isi (by rfl) mi PyProof.Rows.boot_isinstance (pa_cons (pv 0) (pa_cons (pe_bltn (v := .ty "tuple") (by rfl) mt PyProof.Rows.boot_tuple rfl) pa_nil)))
      (pe_one (pe_cmpR (op_eqD hr.units) (pe_slice sl_tupA (pv 0) po_none (po_some pe_int)) (pe_tup (pa_cons pe_str pa_nil)) (nomark _))))), ?_⟩
    cases n with
    | el n =>
      have ev := hn.el
      subst ev
      exact ⟨_, rfl, _, _, _, _, false, rfl, .ty "tuple", .base (.int _), kit_ty (by decide +kernel), _, rfl, q H (Same.refl H)⟩
    | run b c =>
      obtain ⟨a, v2, rfl, h1, h2⟩ := hn.run
      refine ⟨_, rfl, _, _, _, _, true, rfl, .ty "tuple", Loc.SqT.ty h1, kit_ty (by decide +kernel), _, rfl, ?_⟩
      refine ⟨.ref a, rfl, 1, rfl, a, _, rfl, h1, fun hw => absurd hw.2 (show ¬ HT.sIx 3 3 (some 1) = 3 by decide), fun hw p1 n1 => ⟨(show 1 ≤ sizeLine from by decide), fun p2 n2 => ?_⟩⟩
      refine ⟨.tuple [.str "run"], .tuple [.str "run"], .tup (.inl (.inl (sameN n2 _ _ upd_same))) (.cons (.str _) .nil), .tup (.inl (.inl upd_same)) (.cons (.str _) .nil), shaped_one _ str_run_ok.1, shaped_one _ str_run_ok.1, ?_⟩
      rw [eqv_one, beq_self_eq_true]
      exact q _ ((sameN n1).trans (sameN n2))
    | blk ps =>
      obtain ⟨a, b, vs, rfl, h1, h2, h3⟩ := hn.blk
      refine ⟨_, rfl, _, _, _, _, true, rfl, .ty "tuple", Loc.SqT.ty h1, kit_ty (by decide +kernel), _, rfl, ?_⟩
      refine ⟨.ref a, rfl, 1, rfl, a, _, rfl, h1, fun hw => absurd hw.2 (show ¬ HT.sIx 2 2 (some 1) = 2 by decide), fun hw p1 n1 => ⟨(show 1 ≤ sizeLine from by decide), fun p2 n2 => ?_⟩⟩
      refine ⟨.tuple [.str "block"], .tuple [.str "run"], .tup (.inl (.inl (sameN n2 _ _ upd_same))) (.cons (.str _) .nil), .tup (.inl (.inl upd_same)) (.cons (.str _) .nil), shaped_one _ str_run_ok.2, shaped_one _ str_run_ok.1, ?_⟩
      rw [eqv_one, unlike_sorts.2]
      exact q _ ((sameN n1).trans (sameN n2))
theorem ok_isblk {f : Addr} {fd : FuncData} {k : Nat} (F : Fun K "is_block" "is_block" sIsBlk f fd) (mi : mg "isinstance" = none) (mt : mg "tuple" = none) : FnOk P w K mg base CX0 (k + 1) f fd ["value"] (spIsBlk K) := by
  refine F.ok scIsBlk (fun vs H Q E h => ?_) (fun cdv A outer s H vs Q E hr h => ?_)
  · obtain ⟨v, n, rfl, _⟩ := h
    rfl
  · obtain ⟨v, n, rfl, hn, q⟩ := h
    refine ⟨_, pss_one (ps_ret (pe_and (pe_callB call_isi (by rfl) mi PyProof.Rows.boot_isinstance (pa_cons (pv 0) (pa_cons (pe_bltn (v := .ty "tuple") (by rfl) mt PyProof.Rows.boot_tuple rfl) pa_nil)))
      (pe_one (pe_cmpR (op_eqD hr.units) (pe_slice sl_tupA (pv 0) po_none (po_some pe_int)) (pe_tup (pa_cons pe_str pa_nil)) (nomark _))))), ?_⟩
    cases n with
    | el n =>
      have ev := hn.el
      subst ev
      exact ⟨_, rfl, _, _, _, _, false, rfl, .ty "tuple", .base (.int _), kit_ty (by decide +kernel), _, rfl, q H (Same.refl H)⟩
    | run b c =>
      obtain ⟨a, v2, rfl, h1, h2⟩ := hn.run
      refine ⟨_, rfl, _, _, _, _, true, rfl, .ty "tuple", Loc.SqT.ty h1, kit_ty (by decide +kernel), _, rfl, ?_⟩
      refine ⟨.ref a, rfl, 1, rfl, a, _, rfl, h1, fun hw => absurd hw.2 (show ¬ HT.sIx 3 3 (some 1) = 3 by decide), fun hw p1 n1 => ⟨(show 1 ≤ sizeLine from by decide), fun p2 n2 => ?_⟩⟩
      refine ⟨.tuple [.str "run"], .tuple [.str "block"], .tup (.inl (.inl (sameN n2 _ _ upd_same))) (.cons (.str _) .nil), .tup (.inl (.inl upd_same)) (.cons (.str _) .nil), shaped_one _ str_run_ok.1, shaped_one _ str_run_ok.2, ?_⟩
      rw [eqv_one, unlike_sorts.1]
      exact q _ ((sameN n1).trans (sameN n2))
    | blk ps =>
      obtain ⟨a, b, vs, rfl, h1, h2, h3⟩ := hn.blk
      refine ⟨_, rfl, _, _, _, _, true, rfl, .ty "tuple", Loc.SqT.ty h1, kit_ty (by decide +kernel), _, rfl, ?_⟩
      refine ⟨.ref a, rfl, 1, rfl, a, _, rfl, h1, fun hw => absurd hw.2 (show ¬ HT.sIx 2 2 (some 1) = 2 by decide), fun hw p1 n1 => ⟨(show 1 ≤ sizeLine from by decide), fun p2 n2 => ?_⟩⟩
      refine ⟨.tuple [.str "block"], .tuple [.str "block"], .tup (.inl (.inl (sameN n2 _ _ upd_same))) (.cons (.str _) .nil), .tup (.inl (.inl upd_same)) (.cons (.str _) .nil), shaped_one _ str_run_ok.2, shaped_one _ str_run_ok.2, ?_⟩
      rw [eqv_one, beq_self_eq_true]
      exact q _ ((sameN n1).trans (sameN n2))
/-- text_of, of nodes of less than m storeys -/
def spText (K : PySem.W.Frag) (m : Nat) : Sp := fun vs H Q _ => ∃ v n l, vs = [v] ∧ NdV K H v n ∧ Ok n l ∧ wide l ≤ 9500000 ∧ ht n < m ∧ ∀ H', Same H H' → Q (.str (txt n)) H'
theorem scText : FnScope ["node", "part"] ["node"] (defScope sText) := ⟨rfl, rfl, rfl, by decide +kernel, rfl, by decide +kernel, by decide +kernel⟩
theorem ok_text {f g b : Addr} {fd gd bd : FuncData} (F : Fun K "text_of" "text_of" sText f fd) (gF : mg "text_of" = some (.ref f)) (bF : Binds K fd ["node"] []) (R : Fun K "is_run" "is_run" sIsRun g gd) (gR : mg "is_run" = some (.ref g)) (bR : Binds K gd ["value"] [])
    (B : Fun K "is_block" "is_block" sIsBlk b bd) (gB : mg "is_block" = some (.ref b)) (bB : Binds K bd ["value"] []) (mi : mg "isinstance" = none) (mt : mg "tuple" = none) (ms : mg "str" = none) : ∀ m : Nat, FnOk P w K mg base CX0 (m + 1) f fd ["node"] (spText K m)
  | 0 => ⟨fun vs H Q E h => by obtain ⟨v, n, l, _, _, _, _, h, _⟩ := h; exact absurd h (Nat.not_lt_zero _), fun A outer s H args us vs Q E _ _ _ _ h => by obtain ⟨v, n, l, _, _, _, _, h, _⟩ := h; exact absurd h (Nat.not_lt_zero _)⟩
  | m + 1 => by
    have IH : FnOk P w K mg base CX0 (m + 1) f fd ["node"] (spText K m) := ok_text F gF bF R gR bR B gB bB mi mt ms m
    have GR : FnOk P w K mg base CX0 (m + 1) g gd ["value"] (spIsRun K) := ok_isrun R mi mt
    have GB : FnOk P w K mg base CX0 (m + 1) b bd ["value"] (spIsBlk K) := ok_isblk B mi mt
    refine F.ok scText (fun vs H Q E h => ?_) (fun cdv A outer s H vs Q E hr h => ?_)
    · obtain ⟨v, n, l, rfl, _⟩ := h
      rfl
    · obtain ⟨v, n, l, rfl, hn, ok, hw, hh, q⟩ := h
      refine ⟨_, pss_cons (ps_if (pt_val (pe_call GR hr (by rfl) gR R.kp bR .nil pass0 (pa_cons (pv 0) pa_nil)))
            (pss_one (ps_ret (pe_op op_add_str (pe_op op_add_str (pe_call IH hr (by rfl) gF F.kp bF .nil pass0 (pa_cons (pe_ix ix_tup (pv 0) pe_int (fun _ _ => rfl)) pa_nil)) pe_str) (pe_callTy call_str_int (by rfl) ms PyProof.Rows.boot_str (pa_cons (pe_ix ix_tup (pv 0) pe_int (fun _ _ => rfl)) pa_nil))))) pss_nil)
        (pss_cons (ps_if (pt_val (pe_call GB hr (by rfl) gB B.kp bB .nil pass0 (pa_cons (pv 0) pa_nil)))
            (pss_one (ps_ret (pe_op op_add_str (pe_op op_add_str pe_str (pe_join pe_str (pe_lc (own := [("part", 1)]) (g := gName 1) (tt := tYes) rfl scText.nd (pi_tup (pe_ix ix_tup (pv 0) pe_int (fun _ _ => rfl)))
              (blkOk_by (N := ["node", "part"]) (sc := defScope sText) (by decide +kernel)) (fun _ _ _ _ _ => pg_name (i := 1) scText.nd rfl (Or.inl rfl)) (fun _ _ _ _ _ => pts_nil)
              (fun _ _ _ _ _ => pe_call IH hr (by rfl) gF F.kp bF .nil pass0 (pa_cons (pv 1) pa_nil))))) pe_str))) pss_nil)
        (pss_one (ps_ret (pe_callTy call_str_int (by rfl) ms PyProof.Rows.boot_str (pa_cons (pv 0) pa_nil))))), ?_⟩
      have tl := txt_len n l ok
      refine ⟨v, rfl, v, n, rfl, hn, fun H1 s1 => ?_⟩
      have hn1 := hn.up (.of s1)
      cases n with
      | run b c =>
        refine ⟨_, rfl, iteT ?_⟩
        obtain ⟨a, v2, rfl, h1, h2⟩ := hn1.run
        unfold Ok at ok
        have tb := txt_len b l ok.2.2.2
        rw [ok.2.2.1] at tb
        simp only [Bool.false_eq_true, if_false] at tb
        have nl := numT_len (n := c) (k := 61) (by decide) (Nat.lt_of_le_of_lt ok.2.1 (by decide +kernel))
        have e1 : (Str.ofString "^").length = 1 := by decide +kernel
        refine ⟨.ref a, rfl, a, _, 1, v2, rfl, rfl, h1, rfl, v2, b, l, rfl, h2, ok.2.2.2, hw, ?_, fun H2 s2 => ?_⟩
        · unfold ht at hh
          omega
        refine ⟨_, _, rfl, rfl, ?_, .ref a, rfl, a, _, 2, .int c, rfl, rfl, sameT s2 h1, rfl, c, rfl, log60 ok.2.1, _, _, rfl, rfl, ?_, ?_⟩
        · rw [e1]
          exact Nat.le_trans (show (txt b).length + 1 ≤ 9500001 by omega) (by decide)
        · rw [strLen_append, e1]
          have : (numT c).length ≤ 61 := nl
          exact Nat.le_trans (show (txt b).length + 1 + (numT c).length ≤ 9500100 by omega) (by decide)
        · have := q H2 (s1.trans s2)
          unfold txt at this
          exact this
      | el n =>
        refine ⟨_, rfl, iteF ?_⟩
        refine ⟨v, rfl, v, .el n, rfl, hn1, fun H2 s2 => ⟨_, rfl, iteF ?_⟩⟩
        have ev := hn.el
        subst ev
        unfold Ok at ok
        refine ⟨_, rfl, n, rfl, log60 (Nat.le_trans ok.2 (by decide +kernel)), ?_⟩
        have := q H2 (s1.trans s2)
        unfold txt at this
        exact this
      | blk ps =>
        refine ⟨_, rfl, iteF ?_⟩
        refine ⟨v, rfl, v, .blk ps, rfl, hn1, fun H2 s2 => ⟨_, rfl, iteT ?_⟩⟩
        obtain ⟨a, bb, vs, rfl, h1, h2, h3⟩ := (hn1.up (.of s2)).blk
        have okc := ok
        unfold Ok at ok
        obtain ⟨l1, l2, l3, okp, _⟩ := ok
        have lv := h3.len
        have sm := txts_len ps (l - 1) okp
        obtain ⟨j, rfl⟩ : ∃ j, l = j + 1 := ⟨l - 1, by omega⟩
        simp only [Nat.add_sub_cancel] at sm okp
        have wj : wide (j + 1) = 3 * wide j + 110 := rfl
        have mm : ps.length * wide j ≤ 3 * wide j := Nat.mul_le_mul_right _ l3
        refine ⟨⟨_, rfl⟩, .ref a, rfl, a, _, 1, .ref bb, rfl, rfl, h1, rfl, bb, rfl, ⟨vs, h2⟩, fun D nD => ?_⟩
        refine lc_tup (xs := vs) (fun i H' => H' D = some (.lst (((txts ps).take i).map V.str)) ∧ Same H2 H') ⟨by rw [List.take_zero]; exact upd_same, sameN nD⟩ (fun i H' _ hp => sameT hp.2 h2) (fun i u H' hu hp => ?_) (fun H' hp => ?_)
        · obtain ⟨g1, s3⟩ := hp
          obtain ⟨x, hx, kx⟩ := (h3.up (.of s3)).get hu
          have hmem := List.mem_of_getElem? hx
          have ht2 : ht x < m := by
            have := hts_mem hmem
            unfold ht at hh
            omega
          have htx : (txts ps)[i]? = some (txt x) := by rw [txts_map, List.getElem?_map, hx]; rfl
          refine ⟨rfl, u, rfl, u, x, j, rfl, kx, okp.mem x hmem, by omega, ht2, fun H3 s4 => ⟨_, s4 _ _ g1, ?_, ?_, sameW (s3.trans s4) nD⟩⟩
          · rw [List.length_map]
            refine line5 (small_take ?_)
            rw [txts_map, List.length_map]
            omega
          · rw [upd_same, take_more htx, List.map_append]
            rfl
        · obtain ⟨g1, s3⟩ := hp
          have full : (txts ps).take vs.length = txts ps := List.take_of_length_le (by rw [txts_map, List.length_map, lv]; exact Nat.le_refl _)
          rw [full] at g1
          have e1 : (Str.ofString "(").length = 1 := by decide +kernel
          have e2 : (Str.ofString ")").length = 1 := by decide +kernel
          have e3 : (Str.ofString " ").length = 1 := by decide +kernel
          have e4 : (txts ps).length = ps.length := by rw [txts_map, List.length_map]
          have g := size_glued " " (txts ps)
          rw [e3, e4] at g
          have g' : (Txt.join " " (txts ps)).length = ((txts ps).map (·.length)).sum + (ps.length - 1) * 1 := g
          refine ⟨_, D, txts ps, rfl, rfl, .inl (.inl (.inl g1)), ?_, _, _, rfl, rfl, ?_, _, _, rfl, rfl, ?_, ?_⟩
          · rw [e3, e4]
            omega
          · rw [e1]
            refine Nat.le_trans (show 1 + (Txt.join " " (txts ps)).length ≤ 9500100 by omega) (by decide)
          · rw [strLen_append, e1, e2]
            refine Nat.le_trans (show 1 + (Txt.join " " (txts ps)).length + 1 ≤ 9500100 by omega) (by decide)
          · have := q H' (s1.trans (s2.trans s3))
            unfold txt at this
            exact this
end
section
variable {P : Program} {w : World} {K : PySem.W.Frag} {mg : Str → Option Value} {base : Heap}
def spLText (K : PySem.W.Frag) (m : Nat) : Sp := fun vs H Q _ => ∃ v n l, vs = [v] ∧ NdV K H v n ∧ Ok n l ∧ wide l ≤ 9500000 ∧ ht n < m ∧ ∀ H', Same H H' → Q (.str (txt n)) H'
theorem scLText : FnScope ["node", "one"] ["node"] (defScope sLText) := ⟨rfl, rfl, rfl, by decide +kernel, rfl, by decide +kernel, by decide +kernel⟩
theorem ok_ltext {f : Addr} {fd : FuncData} (F : Fun K "_law_text" "_law_text" sLText f fd) (gF : mg "_law_text" = some (.ref f)) (bF : Binds K fd ["node"] []) (mi : mg "isinstance" = none) (mn : mg "int" = none) (ms : mg "str" = none) : ∀ m : Nat, FnOk P w K mg base CX0 (m + 1) f fd ["node"] (spLText K m)
  | 0 => ⟨fun vs H Q E h => by obtain ⟨v, n, l, _, _, _, _, h, _⟩ := h; exact absurd h (Nat.not_lt_zero _), fun A outer s H args us vs Q E _ _ _ _ h => by obtain ⟨v, n, l, _, _, _, _, h, _⟩ := h; exact absurd h (Nat.not_lt_zero _)⟩
  | m + 1 => by
    have IH : FnOk P w K mg base CX0 (m + 1) f fd ["node"] (spLText K m) := ok_ltext F gF bF mi mn ms m
    refine F.ok scLText (fun vs H Q E h => ?_) (fun cdv A outer s H vs Q E hr h => ?_)
    · obtain ⟨v, n, l, rfl, _⟩ := h
      rfl
    · obtain ⟨v, n, l, rfl, hn, ok, hw, hh, q⟩ := h
      refine ⟨_, pss_cons (ps_if (pt_val (pe_callB call_isi (by rfl) mi PyProof.Rows.boot_isinstance (pa_cons (pv 0) (pa_cons (pe_bltn (v := .ty "int") (by rfl) mn (by decide +kernel) rfl) pa_nil))))
            (pss_one (ps_ret (pe_callTy call_str_int (by rfl) ms PyProof.Rows.boot_str (pa_cons (pv 0) pa_nil)))) pss_nil)
        (pss_cons (ps_if (pt_cmpR op_eq (pe_ix ix_tup (pv 0) pe_int (fun _ _ => rfl)) pe_str (nomark _))
            (pss_one (ps_ret (pe_op op_add_str (pe_op op_add_str (pe_call IH hr (by rfl) gF F.kp bF .nil pass0 (pa_cons (pe_ix ix_tup (pv 0) pe_int (fun _ _ => rfl)) pa_nil)) pe_str) (pe_callTy call_str_int (by rfl) ms PyProof.Rows.boot_str (pa_cons (pe_ix ix_tup (pv 0) pe_int (fun _ _ => rfl)) pa_nil))))) pss_nil)
        (pss_one (ps_ret (pe_op op_add_str (pe_op op_add_str pe_str (pe_join pe_str (pe_lc (own := [("one", 1)]) (g := gName 1) (tt := tYes) rfl scLText.nd (pi_tup (pe_ix ix_tup (pv 0) pe_int (fun _ _ => rfl)))
              (blkOk_by (N := ["node", "one"]) (sc := defScope sLText) (by decide +kernel)) (fun _ _ _ _ _ => pg_name (i := 1) scLText.nd rfl (Or.inl rfl)) (fun _ _ _ _ _ => pts_nil)
              (fun _ _ _ _ _ => pe_call IH hr (by rfl) gF F.kp bF .nil pass0 (pa_cons (pv 1) pa_nil))))) pe_str)))), ?_⟩
      have tl := txt_len n l ok
      cases n with
      | run b c =>
        obtain ⟨a, v2, rfl, h1, h2⟩ := hn.run
        refine ⟨_, rfl, _, _, _, _, false, rfl, .ty "int", Loc.SqT.ty h1, kit_ty (by decide +kernel), _, rfl, iteF ?_⟩
        refine ⟨.ref a, rfl, a, _, 0, .str "run", rfl, rfl, h1, rfl, rfl, _, rfl, ?_⟩
        rw [decide_eq_true rfl]
        unfold Ok at ok
        have tb := txt_len b l ok.2.2.2
        rw [ok.2.2.1] at tb
        simp only [Bool.false_eq_true, if_false] at tb
        have nl := numT_len (n := c) (k := 61) (by decide) (Nat.lt_of_le_of_lt ok.2.1 (by decide +kernel))
        have e1 : (Str.ofString "^").length = 1 := by decide +kernel
        refine ⟨.ref a, rfl, a, _, 1, v2, rfl, rfl, h1, rfl, v2, b, l, rfl, h2, ok.2.2.2, hw, ?_, fun H2 s2 => ?_⟩
        · unfold ht at hh
          omega
        refine ⟨_, _, rfl, rfl, ?_, .ref a, rfl, a, _, 2, .int c, rfl, rfl, sameT s2 h1, rfl, c, rfl, log60 ok.2.1, _, _, rfl, rfl, ?_, ?_⟩
        · rw [e1]
          exact Nat.le_trans (show (txt b).length + 1 ≤ 9500001 by omega) (by decide)
        · rw [strLen_append, e1]
          have : (numT c).length ≤ 61 := nl
          exact Nat.le_trans (show (txt b).length + 1 + (numT c).length ≤ 9500100 by omega) (by decide)
        · have := q H2 s2
          unfold txt at this
          exact this
      | el n =>
        have ev := hn.el
        subst ev
        refine ⟨_, rfl, _, _, _, _, true, rfl, .ty "int", .base (.int _), kit_ty (by decide +kernel), _, rfl, iteT ?_⟩
        unfold Ok at ok
        refine ⟨_, rfl, n, rfl, log60 (Nat.le_trans ok.2 (by decide +kernel)), ?_⟩
        have := q H (Same.refl H)
        unfold txt at this
        exact this
      | blk ps =>
        obtain ⟨a, bb, vs, rfl, h1, h2, h3⟩ := hn.blk
        refine ⟨_, rfl, _, _, _, _, false, rfl, .ty "int", Loc.SqT.ty h1, kit_ty (by decide +kernel), _, rfl, iteF ?_⟩
        refine ⟨.ref a, rfl, a, _, 0, .str "block", rfl, rfl, h1, rfl, rfl, _, rfl, ?_⟩
        rw [decide_eq_false (show ¬ (V.str "block" = V.str "run") by decide +kernel)]
        have okc := ok
        unfold Ok at ok
        obtain ⟨l1, l2, l3, okp, _⟩ := ok
        have lv := h3.len
        have sm := txts_len ps (l - 1) okp
        obtain ⟨j, rfl⟩ : ∃ j, l = j + 1 := ⟨l - 1, by omega⟩
        simp only [Nat.add_sub_cancel] at sm okp
        have wj : wide (j + 1) = 3 * wide j + 110 := rfl
        have mm : ps.length * wide j ≤ 3 * wide j := Nat.mul_le_mul_right _ l3
        refine ⟨⟨_, rfl⟩, .ref a, rfl, a, _, 1, .ref bb, rfl, rfl, h1, rfl, bb, rfl, ⟨vs, h2⟩, fun D nD => ?_⟩
        refine lc_tup (xs := vs) (fun i H' => H' D = some (.lst (((txts ps).take i).map V.str)) ∧ Same H H') ⟨by rw [List.take_zero]; exact upd_same, sameN nD⟩ (fun i H' _ hp => sameT hp.2 h2) (fun i u H' hu hp => ?_) (fun H' hp => ?_)
        · obtain ⟨g1, s3⟩ := hp
          obtain ⟨x, hx, kx⟩ := (h3.up (.of s3)).get hu
          have hmem := List.mem_of_getElem? hx
          have ht2 : ht x < m := by
            have := hts_mem hmem
            unfold ht at hh
            omega
          have htx : (txts ps)[i]? = some (txt x) := by rw [txts_map, List.getElem?_map, hx]; rfl
          refine ⟨rfl, u, rfl, u, x, j, rfl, kx, okp.mem x hmem, by omega, ht2, fun H3 s4 => ⟨_, s4 _ _ g1, ?_, ?_, sameW (s3.trans s4) nD⟩⟩
          · rw [List.length_map]
            refine line5 (small_take ?_)
            rw [txts_map, List.length_map]
            omega
          · rw [upd_same, take_more htx, List.map_append]
            rfl
        · obtain ⟨g1, s3⟩ := hp
          have full : (txts ps).take vs.length = txts ps := List.take_of_length_le (by rw [txts_map, List.length_map, lv]; exact Nat.le_refl _)
          rw [full] at g1
          have e1 : (Str.ofString "(").length = 1 := by decide +kernel
          have e2 : (Str.ofString ")").length = 1 := by decide +kernel
          have e3 : (Str.ofString " ").length = 1 := by decide +kernel
          have e4 : (txts ps).length = ps.length := by rw [txts_map, List.length_map]
          have g := size_glued " " (txts ps)
          rw [e3, e4] at g
          have g' : (Txt.join " " (txts ps)).length = ((txts ps).map (·.length)).sum + (ps.length - 1) * 1 := g
          refine ⟨_, D, txts ps, rfl, rfl, .inl (.inl (.inl g1)), ?_, _, _, rfl, rfl, ?_, _, _, rfl, rfl, ?_, ?_⟩
          · rw [e3, e4]
            omega
          · rw [e1]
            refine Nat.le_trans (show 1 + (Txt.join " " (txts ps)).length ≤ 9500100 by omega) (by decide)
          · rw [strLen_append, e1, e2]
            refine Nat.le_trans (show 1 + (Txt.join " " (txts ps)).length + 1 ≤ 9500100 by omega) (by decide)
          · have := q H' s3
            unfold txt at this
            exact this
end
end C62.U

set_option Elab.async false
set_option linter.all false
set_option maxRecDepth 100000
namespace C62.T
open PySem PySem.Spec PyProof.Rows L2 Loc RZ
/-! ### repr of a list of trees -/
section
variable {K : PySem.W.Frag}
def Shw (d : PyData) : Prop := PyData.showable d = true ∧ PyData.hasDict d = false ∧ PyData.depth d ≤ 40 ∧ (PyData.shown d).length ≤ 2000010
theorem dat_treeX (gs : List (Nd × Nat)) : ∃ d : PyData, Shw d ∧ ∀ (H : Hp) (u : V), TreeX K H u gs → Dp K H u d := by
  by_cases z : gs = []
  · refine ⟨.none, ⟨by decide +kernel, by decide +kernel, by decide +kernel, by decide +kernel⟩, fun H u hU => ?_⟩
    rcases hU with ⟨_, rfl⟩ | ⟨z', _⟩
    · exact .non
    · exact absurd z z'
  · by_cases h : ∃ n l, Ok n l ∧ l ≤ 8 ∧ nx l (gs.map mkRun) = [n] ∧ Top (gs.map mkRun) (l + 1)
    · obtain ⟨n, l, okn, l8, en, top⟩ := h
      have d1 := depth_le okn
      have d2 := shown_dat n l okn
      have d3 := wide_le l l8
      refine ⟨dat n, ⟨showable_dat n l okn, noDict_dat n, by omega, by split at d2 <;> omega⟩, fun H u hU => ?_⟩
      rcases hU with ⟨z', _⟩ | ⟨_, n2, l2, hn2, ok2, l28, _, _, en2, top2⟩
      · exact absurd z' z
      · have := top.one top2
        have el : l2 = l := by omega
        subst el
        rw [en] at en2
        have e2 : n = n2 := by simpa using en2
        subst e2
        exact hn2
    · refine ⟨.none, ⟨by decide +kernel, by decide +kernel, by decide +kernel, by decide +kernel⟩, fun H u hU => ?_⟩
      rcases hU with ⟨z', _⟩ | ⟨_, n2, l2, hn2, ok2, l28, _, _, en2, top2⟩
      · exact absurd z' z
      · exact absurd ⟨n2, l2, ok2, l28, en2, top2⟩ h
theorem rep_five {H : Hp} {a : Addr} {u1 u2 u3 u4 u5 : V} {d1 d2 d3 d4 d5 : PyData} {Q : VK} (hL : SqL K H a [u1, u2, u3, u4, u5]) (h1 : Dp K H u1 d1) (h2 : Dp K H u2 d2) (h3 : Dp K H u3 d3) (h4 : Dp K H u4 d4) (h5 : Dp K H u5 d5)
    (s1 : Shw d1) (s2 : Shw d2) (s3 : Shw d3) (s4 : Shw d4) (s5 : Shw d5) (q : Q (.str (PyData.shown (.list [d1, d2, d3, d4, d5]))) H) : rRep K [.ref a] H Q := by
  obtain ⟨a1, b1, c1, e1⟩ := s1
  obtain ⟨a2, b2, c2, e2⟩ := s2
  obtain ⟨a3, b3, c3, e3⟩ := s3
  obtain ⟨a4, b4, c4, e4⟩ := s4
  obtain ⟨a5, b5, c5, e5⟩ := s5
  refine ⟨a, _, rfl, .lst hL (.cons h1 (.cons h2 (.cons h3 (.cons h4 (.cons h5 .nil))))), ?_, ?_, ?_, ?_, q⟩
  · simp only [PyData.showable, PyData.showableAll]
    rw [a1, a2, a3, a4, a5]
    rfl
  · simp only [PyData.hasDict, PyData.hasDictAll]
    rw [b1, b2, b3, b4, b5]
    rfl
  · simp only [PyData.depth, PyData.depthAll]
    omega
  · show (listText (PyData.shownAll [d1, d2, d3, d4, d5])).length ≤ sizeLine
    have t := listText_len_le (PyData.shownAll [d1, d2, d3, d4, d5])
    simp only [PyData.shownAll, List.map_cons, List.map_nil, List.sum_cons, List.sum_nil, List.length_cons, List.length_nil] at t
    simp only [PyData.shownAll]
    rw [sizeLine_eq]
    omega
end
end C62.T

set_option Elab.async false
set_option linter.all false
set_option maxRecDepth 100000
namespace C62
open PySem PySem.Spec PyProof.Rows L2 Loc RZ
/-! ### trees shown and read -/
section
variable {P : Program} {w : World} {K : PySem.W.Frag} {mg : Str → Option Value} {base : Heap}
theorem base_nwG (X : Facts K mg) : FnOk P w K mg base CX0 6 X.unode_with X.vnode_with ["text"] (spNwG K) := by
  have GA0 : FnOk P w K mg base CX0 3 X.udigits_end X.vdigits_end ["text", "at"] spDig := ok_dig X.fdigits_end X.len X.DIGITS
  have GA : FnOk P w K mg base CX0 4 X.udigits_end X.vdigits_end ["text", "at"] spDig := ok_dig X.fdigits_end X.len X.DIGITS
  have GB : FnOk P w K mg base CX0 4 X.uwhole_with X.vwhole_with ["text", "most"] spNumb := ok_numb X.fwhole_with X.len X.int GA0 X.fdigits_end X.gdigits_end X.bdigits_end
  have GL : FnOk P w K mg base CX0 4 X.uis_element X.vis_element ["value"] spElement := ok_element X.fis_element X.fis_whole X.gis_whole X.bis_whole X.isinstance X.int X.bool
  have GM : FnOk P w K mg base CX0 4 X.uis_count X.vis_count ["value", "least"] spCount := ok_count X.fis_count X.fis_whole X.gis_whole X.bis_whole X.isinstance X.int X.bool
  have GE : FnOk P w K mg base CX0 5 X.uread_element X.vread_element ["text", "at"] (spRel K) := ok_rel (k := 2) X.fread_element GA X.fdigits_end X.gdigits_end X.bdigits_end GB X.fwhole_with X.gwhole_with X.bwhole_with X.MOST_DIGITS GL X.fis_element X.gis_element X.bis_element
  have GC : FnOk P w K mg base CX0 5 X.uread_count X.vread_count ["node", "text", "at"] (spRcn K) := ok_rcn (k := 2) X.fread_count GA X.fdigits_end X.gdigits_end X.bdigits_end GB X.fwhole_with X.gwhole_with X.bwhole_with X.MOST_DIGITS GM X.fis_count X.gis_count X.bis_count (ok_runof X.frun_of) X.frun_of X.grun_of X.brun_of
  have GD : FnOk P w K mg base CX0 5 X.uclosed X.vclosed ["parts"] (spCloG K) := ok_cloG X.fclosed
    { A := X.fis_run, B := X.fis_block, C := X.fbase_of, D := X.flevel_of, W := X.fis_whole, L := X.fis_element, M := X.fis_count, N := X.fis_node, O := X.fcan_be_parts, P := X.ffit_together, gA := X.gis_run, gB := X.gis_block, gC := X.gbase_of, gD := X.glevel_of, gW := X.gis_whole, gL := X.gis_element, gM := X.gis_count, gN := X.gis_node, gO := X.gcan_be_parts, gP := X.gfit_together, bA := X.bis_run, bB := X.bis_block, bC := X.bbase_of, bD := X.blevel_of, bW := X.bis_whole, bL := X.bis_element, bM := X.bis_count, bN := X.bis_node, bO := X.bcan_be_parts, bP := X.bfit_together, isinstance := X.isinstance, int := X.int, bool := X.bool, len := X.len, tuple := X.tuple, range := X.range }
  exact ok_nwG X.fnode_with { E := GE, E' := X.fread_element, gE := X.gread_element, bE := X.bread_element, C := GC, C' := X.fread_count, gC := X.gread_count, bC := X.bread_count, D := GD, D' := X.fclosed, gD := X.gclosed, bD := X.bclosed, len := X.len, isinstance := X.isinstance, str := X.str }
theorem scShow : FnScope ["tree"] ["tree"] (defScope s_show_tree) := ⟨rfl, rfl, rfl, by decide +kernel, rfl, by decide +kernel, by decide +kernel⟩
theorem wide10 {l : Nat} (h : l ≤ 10) : wide l ≤ 9500000 := by
  match l, h with
  | 0, _ => decide
  | 1, _ => decide
  | 2, _ => decide
  | 3, _ => decide
  | 4, _ => decide
  | 5, _ => decide
  | 6, _ => decide
  | 7, _ => decide
  | 8, _ => decide
  | 9, _ => decide
  | 10, _ => decide
  | l + 11, h => omega
def spShow (K : PySem.W.Frag) : Sp := fun vs H Q _ => ∃ v, vs = [v] ∧ ((v = .non ∧ Q (.str "-") H) ∨ ∃ n l, NdV K H v n ∧ Ok n l ∧ l ≤ 10 ∧ ht n < 22 ∧ ∀ H', Same H H' → Q (.str (txt n)) H')
theorem ok_show (X : Facts K mg) : FnOk P w K mg base CX0 24 X.ushow_tree X.vshow_tree ["tree"] (spShow K) := by
  have GX : FnOk P w K mg base CX0 23 X.utext_of X.vtext_of ["node"] (U.spText K 22) := U.ok_text X.ftext_of X.gtext_of X.btext_of X.fis_run X.gis_run X.bis_run X.fis_block X.gis_block X.bis_block X.isinstance X.tuple X.str 22
  refine X.fshow_tree.ok scShow (fun vs H Q E h => ?_) (fun cdv A outer s H vs Q E hr h => ?_)
  · obtain ⟨v, rfl, _⟩ := h
    rfl
  · obtain ⟨v, rfl, h⟩ := h
    refine ⟨_, pss_cons (ps_if (pt_cmpR op_isN (pv 0) pe_non (nomark _)) (pss_one (ps_ret (pe_glob (v := .str "-") (by rfl) X.EMPTY ⟨_, rfl⟩))) pss_nil) (pss_one (ps_ret (pe_call GX hr (by rfl) X.gtext_of X.ftext_of.kp X.btext_of .nil pass0 (pa_cons (pv 0) pa_nil)))), ?_⟩
    rcases h with ⟨rfl, q⟩ | ⟨n, l, hn, ok, l10, hh, q⟩
    · exact ⟨.non, rfl, rfl, _, rfl, iteT q⟩
    · refine ⟨v, rfl, rfl, _, rfl, ?_⟩
      rw [decide_eq_false (nd_some hn)]
      exact iteF ⟨v, rfl, v, n, l, rfl, hn, ok, wide10 l10, hh, q⟩
theorem scRd : FnScope ["text", "tree"] ["text"] (defScope s_read_tree) := ⟨rfl, rfl, rfl, by decide +kernel, rfl, by decide +kernel, by decide +kernel⟩
def spRd (K : PySem.W.Frag) : Sp := fun vs H Q _ => ∃ z, vs = [.str z] ∧ ((z = "-" ∧ Q .non H) ∨ ∃ n l gs, TL.tl z = cd n ∧ z.length ≤ sizeLine ∧ gs ≠ [] ∧ Ok n l ∧ l ≤ 8 ∧ ht n < 18 ∧ T.prs n = gs ∧ T.nx l (gs.map mkRun) = [n] ∧ T.Top (gs.map mkRun) (l + 1) ∧ Giv gs ∧ gs.length ≤ 300 ∧ ∀ H' u, Same H H' → NdV K H' u n → Q u H')
theorem cd_first {n : Nd} {l : Nat} (ok : Ok n l) : ∃ x r, cd n = x :: r ∧ (Dg x ∨ x = 40) := by
  rcases cd_head (n := n) with ⟨k, c, rfl, _⟩ | ⟨x, xs, c, rfl⟩ | bad
  · rw [cd_mkRun, cd]
    cases e : TL.numL k with
    | nil => exact absurd e (TL.numL_ne k)
    | cons y r => exact ⟨y, _, rfl, .inl (TL.numL_digits k y (by rw [e]; exact List.mem_cons_self))⟩
  · rw [cd_mkRun, cd]
    exact ⟨40, _, rfl, .inr rfl⟩
  · exact absurd ⟨l, ok⟩ bad
theorem ok_rd (X : Facts K mg) : FnOk P w K mg base CX0 42 X.uread_tree X.vread_tree ["text"] (spRd K) := by
  have GN := base_nwG (P := P) (w := w) (base := base) X
  have GI := T.ok_istree (P := P) (w := w) (base := base) X
  refine X.fread_tree.ok scRd (fun vs H Q E h => ?_) (fun cdv A outer s H vs Q E hr h => ?_)
  · obtain ⟨z, rfl, _⟩ := h
    rfl
  · obtain ⟨z, rfl, h⟩ := h
    have r6 := hr.mono (j := 6) (by omega)
    refine ⟨_, pss_cons (ps_if (pt_cmpR op_eq (pv 0) (pe_glob (v := .str "-") (by rfl) X.EMPTY ⟨_, rfl⟩) (nomark _)) (pss_one (ps_ret pe_non)) pss_nil)
      (pss_cons (ps_set (i := 1) scRd.nd rfl (.inl rfl) (pe_call GN r6 (by rfl) X.gnode_with X.fnode_with.kp X.bnode_with .nil pass0 (pa_cons (pv 0) pa_nil)))
      (pss_cons (ps_if (PW.pt (pw_or (pt_cmpR op_isN (pv 1) pe_non (nomark _)) (pw_or1 (pt_not (pt_val (pe_call GI hr (by rfl) X.gis_tree X.fis_tree.kp X.bis_tree .nil pass0 (pa_cons (pv 1) pa_nil))))))) (pss_one ps_never) pss_nil)
      (pss_one (ps_ret (pv 1))))), ?_⟩
    rcases h with ⟨rfl, q⟩ | ⟨n, l, gs, hz, sz, gne, okn, l8, hh, pn, en, top, giv, l300, q⟩
    · refine ⟨_, rfl, rfl, _, rfl, ?_⟩
      rw [decide_eq_true rfl]
      exact iteT q
    · refine ⟨_, rfl, rfl, _, rfl, ?_⟩
      rw [decide_eq_false (show ¬ V.str z = V.str "-" from fun e => by
        obtain ⟨x, r, e1, e2⟩ := cd_first okn
        rw [V.str.inj e, e1, show TL.tl ("-" : Str) = [45] by decide +kernel] at hz
        have := (List.cons.inj hz).1
        unfold Dg at e2
        omega)]
      refine iteF ⟨_, rfl, z, n, l, rfl, hz, okn, by omega, sz, fun H1 u s1 hu => ?_⟩
      refine ⟨u, rfl, rfl, _, rfl, ?_⟩
      rw [decide_eq_false (nd_some hu)]
      refine iteF ⟨u, rfl, u, gs, rfl, .inr ⟨gne, n, l, hu, okn, l8, hh, pn, en, top⟩, giv, l300, fun H2 s2 => ⟨_, rfl, iteF ⟨u, rfl, q _ u (s1.trans s2) (hu.up (.of s2))⟩⟩⟩
theorem page_ex {gs : List (Nd × Nat)} (giv : Giv gs) (l300 : gs.length ≤ 300) {H : Hp} {v : V} (hX : T.TreeX K H v gs) : ∃ Z : Str, (∀ (H' : Hp) (v' : V) (Q : VK) (E : XK), T.TreeX K H' v' gs → (∀ H'', Same H' H'' → Q (.str Z) H'') → spShow K [v'] H' Q E) ∧
    (∀ (H' : Hp) (Q : VK) (E : XK), (∀ H'' u, Same H' H'' → T.TreeX K H'' u gs → Q u H'') → spRd K [.str Z] H' Q E) ∧
    ((v = .non ∧ Z = "-") ∨ (v ≠ .non ∧ ∀ (Q : VK) (E : XK), (∀ H'', Same H H'' → Q (.str Z) H'') → U.spLText K 22 [v] H Q E)) := by
  rcases hX with ⟨gz, rfl⟩ | ⟨gne, n, l, hn, okn, l8, hh, pn, en, top⟩
  · refine ⟨"-", fun H' v' Q E h q => ⟨v', rfl, ?_⟩, fun H' Q E q => ⟨_, rfl, .inl ⟨rfl, q _ _ (Same.refl _) (.inl ⟨gz, rfl⟩)⟩⟩, .inl ⟨rfl, rfl⟩⟩
    rcases h with ⟨_, rfl⟩ | ⟨z, _⟩
    · exact .inl ⟨rfl, q _ (Same.refl _)⟩
    · exact absurd gz z
  · refine ⟨txt n, fun H' v' Q E h q => ⟨v', rfl, ?_⟩, fun H' Q E q => ⟨_, rfl, .inr ⟨n, l, gs, tl_txt n, ?_, gne, okn, l8, hh, pn, en, top, giv, l300, fun H'' u s hu => q _ _ s (.inr ⟨gne, n, l, hu, okn, l8, hh, pn, en, top⟩)⟩⟩, .inr ⟨nd_some hn, fun Q E q => ⟨v, n, l, rfl, hn, okn, wide10 (by omega), by omega, q⟩⟩⟩
    · rcases h with ⟨z, _⟩ | ⟨_, n2, l2, hn2, ok2, l28, hh2, pn2, en2, top2⟩
      · exact absurd z gne
      · have := top.one top2
        have el : l2 = l := by omega
        subst el
        rw [en] at en2
        have e2 : n = n2 := by simpa using en2
        subst e2
        exact .inr ⟨n, l2, hn2, ok2, by omega, by omega, q⟩
    · have := txt_len n l okn
      have w8 := wide10 (show l ≤ 10 by omega)
      exact Nat.le_trans (show (txt n).length ≤ 9500000 by split at this <;> omega) (by decide)
end
end C62

set_option Elab.async false
set_option linter.all false
set_option maxRecDepth 100000
namespace C62
open PySem PySem.Spec PyProof.Rows L2 Loc RZ
/-! ### calls by names alone -/
def kG {α : Type} (us ws : List α) : List α := match us with
  | [] => ws
  | _ => []
section
variable {X : Cx} {CX : CXT} {k : Nat} {f : Addr} {fd : FuncData} {ps ks : List Str} {sp : Sp} {E : XK} {x : Str} {p pos : Pos} {kws : List Keyword} {tk : TA} {g : List Value → List Value → List Value} {gV : List V → List V → List V}
theorem pe_callK0 (F : FnOk X.prog X.w X.K X.mg X.base CX k f fd ps sp) (hr : Room k X.A) (hg : Gl X x) (hm : X.mg x = some (.ref f)) (hk : PySem.W.keepIn X.K (.ref f) = true) (hb : KBinds X.K fd ps ks g gV) (hx : Passes CX X E)
    (hkw : PK X kws tk) (hall : (backToKw pos (keywordEach kws X.env)).all (·.1.isSome) = true := by rfl) (hks : (backToKw pos (keywordEach kws X.env)).filterMap (·.1) = ks := by rfl)
    (hdb : (x == ("__debug__" : Str)) = false := by decide) (hpl : ((backTo pos (starEach [] X.env)).any (·.1) || (backToKw pos (keywordEach kws X.env)).any (·.1.isNone)) = false := by rfl) :
    PE X (.Call (.Name x p) [] kws pos) (tCallK sp gV E tNil tk) := by
  refine ⟨fun pins s σ H Q I h => ?_⟩
  refine wpAny_Call_Name_kw (ld_glob I hg hm ?_ hdb)
  refine PySem.W.callWith_KW0 (h₀ := X.base) I.ok.mod.kin hk hall (thn (hkw.run pos pins s σ H _ I h) fun ws s2 ⟨zs, H2, I2, rz, q2⟩ => ⟨I2.kIn, ?_⟩) hpl
  rw [hks]
  exact run_fnk (us := []) (vs := []) F hr hb hx I2 .nil rz q2
end
theorem fun_kbinds {K : PySem.W.Frag} {x qual : Str} {st : Stmt} {f : Addr} {fd : FuncData} {ps : List Str} (F : Fun K x qual st f fd) (hp : 0 < ps.length)
    (h : ∀ (kV doc pm : Value) (an : Option Addr) (cdv ct : Value) (ws : List Value), ws.length = ps.length → bindArgs (PySem.W.fnOf x qual (defArgs st) (defBody st) (defScope st) .none kV doc pm an cdv ct) ⟨[], ps.zip ws⟩ = pure (ps.zip ws)) : KBinds K fd ps ps kG kG := by
  obtain ⟨oc, od, kV, doc, pm, an, cdv, ct, osl, rfl, lk, hcd⟩ := F.ex
  refine ⟨fun s us ws _ hl => ?_, fun r rz => ?_⟩
  · cases us with
    | nil => exact .of_eq (h kV doc pm an cdv ct ws hl)
    | cons u us =>
      have hl : (0 : Nat) = ps.length := hl
      omega
  · cases r with
    | nil => exact rz
    | cons _ _ => exact .nil
/-! ### the law -/
section
variable {P : Program} {w : World} {K : PySem.W.Frag} {mg : Str → Option Value} {base : Heap}
theorem kb_show {f : Addr} {fd : FuncData} (F : Fun K "show_tree" "show_tree" s_show_tree f fd) : KBinds K fd ["tree"] ["tree"] kG kG := fun_kbinds F (by decide) fun _ _ _ _ _ _ ws hl => match ws, hl with | [_], _ => rfl
theorem kb_read {f : Addr} {fd : FuncData} (F : Fun K "read_tree" "read_tree" s_read_tree f fd) : KBinds K fd ["text"] ["text"] kG kG := fun_kbinds F (by decide) fun _ _ _ _ _ _ ws hl => match ws, hl with | [_], _ => rfl
theorem asg_mid {e : TE} {i : Nat} {U : TS} {D} {σ H} (C : Hp → V → Prop) (f : V → List (Option V)) (h1 : (∀ H v, C H v → U D (f v) H) → tSeq (tAsg e (gName i)) U D σ H) (h2 : ∀ H v, C H v → U D (f v) H) : tSeq (tAsg e (gName i)) U D σ H := h1 h2
theorem rep_pairD {H : Hp} {a : Addr} {u1 u2 : V} {d : PyData} {Q : VK} (hL : SqL K H a [u1, u2]) (h1 : Dp K H u1 d) (h2 : Dp K H u2 d) (s1 : T.Shw d) (q : Q (.str (PyData.shown (.list [d, d]))) H) : rRep K [.ref a] H Q := by
  obtain ⟨a1, b1, c1, e1⟩ := s1
  refine ⟨a, _, rfl, .lst hL (.cons h1 (.cons h2 .nil)), ?_, ?_, ?_, ?_, q⟩
  · simp only [PyData.showable, PyData.showableAll]
    rw [a1]
    rfl
  · simp only [PyData.hasDict, PyData.hasDictAll]
    rw [b1]
    rfl
  · simp only [PyData.depth, PyData.depthAll]
    omega
  · show (listText (PyData.shownAll [d, d])).length ≤ sizeLine
    have t := listText_len_le (PyData.shownAll [d, d])
    simp only [PyData.shownAll, List.map_cons, List.map_nil, List.sum_cons, List.sum_nil, List.length_cons, List.length_nil] at t
    simp only [PyData.shownAll]
    rw [sizeLine_eq]
    omega
theorem scRight : FnScope ["given", "due", "page"] ["given"] (defScope sRight) := ⟨rfl, rfl, rfl, by decide +kernel, rfl, by decide +kernel, by decide +kernel⟩
def spRight (K : PySem.W.Frag) : Sp := fun vs H Q _ => ∃ (a : Addr) (ws : List V) (gs : List (Nd × Nat)), vs = [.ref a] ∧ SqT K H a ws ∧ PrsV K H ws gs ∧ Giv gs ∧ gs.length ≤ 300 ∧ ∀ H', Same H H' → Q (.bl true) H'
theorem ok_right (X : Facts K mg) : FnG P w K mg base CX0 43 X.ul_right X.vl_right ["given"] (spRight K) := by
  have GS := ok_show (P := P) (w := w) (base := base) X
  have GR := ok_rd (P := P) (w := w) (base := base) X
  have GL := T.ok_ltree (P := P) (w := w) (base := base) X
  have GT := T.base_treeX (P := P) (w := w) (base := base) X
  have GX : FnOk P w K mg base CX0 23 X.ul_text X.vl_text ["node"] (U.spLText K 22) := U.ok_ltext X.fl_text X.gl_text X.bl_text X.isinstance X.int X.str 22
  refine fun_okG X.fl_right scRight (fun vs H Q E h => ?_) (fun cdv A outer s H vs Q E hg hr h => ?_)
  · obtain ⟨a, ws, gs, rfl, _⟩ := h
    rfl
  · obtain ⟨a, ws, gs, rfl, ha, kP, giv, l300, q⟩ := h
    have r22 := hr.mono (j := 22) (by omega)
    have r23 := hr.mono (j := 23) (by omega)
    have r24 := hr.mono (j := 24) (by omega)
    have r25 := hr.mono (j := 25) (by omega)
    refine ⟨_, pss_cons (ps_set (i := 1) scRight.nd rfl (.inl rfl) (pe_call GL r22 (by rfl) X.gl_tree X.fl_tree.kp X.bl_tree .nil pass0 (pa_cons (pv 0) pa_nil)))
      (pss_cons (ps_set (i := 2) scRight.nd rfl (.inl rfl) (pe_ifExp (pt_cmpR op_isN (pv 1) pe_non (nomark _)) pe_str (pe_call GX r23 (by rfl) X.gl_text X.fl_text.kp X.bl_text .nil pass0 (pa_cons (pv 1) pa_nil))))
      (pss_cons (ps_if (PW.pt (pw_or (pt_cmpR op_ne (pe_callB (call_repV hr hg) (by rfl) X.repr PyProof.Rows.boot_repr (pa_cons (pe_call GT r25 (by rfl) X.gtree_of X.ftree_of.kp X.btree_of .nil pass0 (pa_cons (pv 0) pa_nil)) pa_nil)) (pe_callB (call_repV hr hg) (by rfl) X.repr PyProof.Rows.boot_repr (pa_cons (pv 1) pa_nil)) (nomark _))
          (pw_or (pt_cmpR op_ne (pe_call GS r24 (by rfl) X.gshow_tree X.fshow_tree.kp X.bshow_tree .nil pass0 (pa_cons (pv 1) pa_nil)) (pv 2) (nomark _))
          (pw_or1 (pt_cmpR op_ne (pe_callK0 GS r24 (by rfl) X.gshow_tree X.fshow_tree.kp (kb_show X.fshow_tree) pass0 (pk_cons (pv 1) pk_nil)) (pv 2) (nomark _)))))) (pss_one (ps_ret pe_bl)) pss_nil)
      (pss_one (ps_ret (pe_cmpR op_eq (pe_callB (call_rep hr hg) (by rfl) X.repr PyProof.Rows.boot_repr (pa_cons (pe_lst (pa_cons (pe_call GR hr (by rfl) X.gread_tree X.fread_tree.kp X.bread_tree .nil pass0 (pa_cons (pv 2) pa_nil)) (pa_cons (pe_callK0 GR hr (by rfl) X.gread_tree X.fread_tree.kp (kb_read X.fread_tree) pass0 (pk_cons (pv 2) pk_nil)) pa_nil))) pa_nil))
        (pe_callB (call_rep hr hg) (by rfl) X.repr PyProof.Rows.boot_repr (pa_cons (pe_lst (pa_cons (pv 1) (pa_cons (pv 1) pa_nil))) pa_nil)) (nomark _)))))), ?_⟩
    refine ⟨.ref a, rfl, a, ws, gs, rfl, ha, kP, giv, l300, fun H1 v s1 hX => ?_⟩
    obtain ⟨Z, zs, zr, zp⟩ := page_ex giv l300 hX
    obtain ⟨S, rep⟩ := T.rep_treeX (K := K) gs
    obtain ⟨d, hd, dd⟩ := T.dat_treeX (K := K) gs
    dsimp only [gName]
    refine asg_mid (fun H2 w => Same H1 H2 ∧ w = .str Z) (fun w => [some (.ref a), some v, some w]) (fun key => ?_) ?_
    · rcases zp with ⟨rfl, rfl⟩ | ⟨vn, zp⟩
      · exact ⟨.non, rfl, rfl, _, rfl, iteT (key _ _ ⟨Same.refl _, rfl⟩)⟩
      · refine ⟨v, rfl, rfl, _, rfl, ?_⟩
        rw [decide_eq_false vn]
        refine iteF ⟨v, rfl, ?_⟩
        dsimp only [tNil]
        refine zp _ _ fun H2 s2 => ?_
        exact key _ _ ⟨s2, rfl⟩
    rintro H2 _ ⟨s2, rfl⟩
    have s12 := s1.trans s2
    refine ⟨.ref a, rfl, a, ws, gs, rfl, sameT s12 ha, PrsV.up (.of s12) kP, giv, l300, fun H3 u s3 hU => ?_⟩
    have s23 := s2.trans s3
    have hX3 := hX.up (.of (K := K) s23)
    refine rep _ _ _ hU ⟨v, rfl, ?_⟩
    refine rep _ _ _ hX3 ⟨rfl, _, rfl, ?_⟩
    rw [decide_eq_true rfl]
    refine iteF ⟨v, rfl, ?_⟩
    dsimp only [tNil]
    refine zs _ _ _ _ hX3 fun H4 s4 => ?_
    refine ⟨_, rfl, rfl, _, rfl, ?_⟩
    rw [decide_eq_true rfl]
    have hX4 := hX3.up (.of (K := K) s4)
    refine iteF ⟨v, rfl, ?_⟩
    dsimp only [tNil]
    refine zs _ _ _ _ hX4 fun H5 s5 => ?_
    refine ⟨_, rfl, rfl, _, rfl, ?_⟩
    rw [decide_eq_true rfl]
    have s25 := s23.trans (s4.trans s5)
    refine iteF ⟨_, rfl, ?_⟩
    dsimp only [tNil]
    refine zr _ _ _ fun H6 u1 s6 h1 => ?_
    refine ⟨_, rfl, ?_⟩
    dsimp only [tNil]
    refine zr _ _ _ fun H7 u2 s7 h2 => ?_
    refine ⟨(show 2 ≤ sizeLine from by decide), fun t nt => ?_⟩
    have st := sameN (o := .lst [u1, u2]) nt
    refine rep_pairD (.inl (.inl upd_same)) (dd _ _ (h1.up (.of (s7.trans st)))) (dd _ _ (h2.up (.of st))) hd ?_
    refine ⟨v, rfl, v, rfl, (show 2 ≤ sizeLine from by decide), fun t2 nt2 => ?_⟩
    have st2 := sameN (o := .lst [v, v]) nt2
    have s9 := (s25.trans (s6.trans s7)).trans (st.trans st2)
    have hX9 := dd _ _ (hX.up (.of (K := K) s9))
    dsimp only [tNil]
    refine rep_pairD (.inl (.inl upd_same)) hX9 hX9 hd ?_
    refine ⟨rfl, ?_⟩
    rw [decide_eq_true rfl]
    exact q _ (s1.trans s9)
end
end C62

set_option Elab.async false
set_option linter.all false
set_option maxRecDepth 100000
namespace C62
open PySem PySem.Spec PyProof.Rows L2 Loc RZ
section
variable {P : Program} {w : World} {K : PySem.W.Frag} {mg : Str → Option Value} {base : Heap}
abbrev nmLaw : List Str := ["script", "k", "pot", "some", "given", "far", "turn"]
theorem scLaw : FnScope nmLaw ["script"] (defScope sLaw) := ⟨rfl, rfl, rfl, by decide +kernel, rfl, by decide +kernel, by decide +kernel⟩
def Gv (K : PySem.W.Frag) (H : Hp) (x : V) : Prop := ∃ (a : Addr) (ws : List V) (gs : List (Nd × Nat)), x = .ref a ∧ SqT K H a ws ∧ PrsV K H ws gs ∧ Giv gs ∧ gs.length ≤ 300
theorem Gv.up {H H' : Hp} {x : V} (h : Gv K H x) (tp : Tups K H H') : Gv K H' x := by
  obtain ⟨a, ws, gs, e, h1, h2, h3, h4⟩ := h
  exact ⟨a, ws, gs, e, tp _ _ h1, PrsV.up tp h2, h3, h4⟩
theorem giv_one62 {k c : Nat} (h1 : k ≤ 10 ^ 9) (h2 : 1 ≤ c) (h3 : c ≤ 10 ^ 60) : Giv [(.el k, c)] := ⟨fun p hp => by
  rw [List.mem_singleton.mp hp]
  exact ⟨⟨k, rfl, h1⟩, h2, h3⟩, fun i p q h hq => by simp at hq⟩
def spLaw (K : PySem.W.Frag) : Sp := fun vs H Q _ => ∃ (a : Addr) (ns : List Int), vs = [.ref a] ∧ SqL K H a (ns.map V.int) ∧ ns.length ≤ 63 ∧ ∀ H', Q (.bl true) H'
theorem ok_law {f : Addr} {fd : FuncData} (F : Fun K "law" "law" sLaw f fd) (X : Facts K mg) : FnG P w K mg base CX0 44 f fd ["script"] (spLaw K) := by
  have GP : FnOk P w K mg base CX0 1 X.ul_pot X.vl_pot ["script", "k"] (spPot K) := ok_pot X.fl_pot X.len X.abs X.int
  have GT : FnOk P w K mg base CX0 1 X.ul_take X.vl_take ["pot", "bound"] spTake := ok_take X.fl_take
  have GO : FnOk P w K mg base CX0 2 X.ul_of X.vl_of ["pot", "some"] spOf := ok_of X.fl_of X.fl_take X.gl_take X.bl_take X.len
  have GQ := ok_seq (P := P) (w := w) (base := base) X.fl_sequence X.fl_take X.gl_take X.bl_take X.fl_of X.gl_of X.bl_of X.len
  have GN : FnOk P w K mg base CX0 1 X.ul_runs X.vl_runs ["some"] (spLRuns K) := ok_lruns X.fl_runs X.tuple
  have GD := ok_wide (P := P) (w := w) (base := base) X.fl_wide X.fl_take X.gl_take X.bl_take X.fl_of X.gl_of X.bl_of X.fl_sequence X.gl_sequence X.bl_sequence X.fl_runs X.gl_runs X.bl_runs X.len X.tuple
  have GI : FnG P w K mg base CX0 43 X.ul_right X.vl_right ["given"] (spRight K) := ok_right X
  have GR := ok_repf (P := P) (w := w) (base := base) X
  have GS := ok_show (P := P) (w := w) (base := base) X
  have GX : FnOk P w K mg base CX0 23 X.ul_text X.vl_text ["node"] (U.spLText K 22) := U.ok_ltext X.fl_text X.gl_text X.bl_text X.isinstance X.int X.str 22
  refine fun_okG F scLaw (fun vs H Q E h => ?_) (fun cdv A outer s H vs Q E hg hr h => ?_)
  · obtain ⟨a, ns, rfl, _⟩ := h
    rfl
  · obtain ⟨a, ns, rfl, hS, hlen, q⟩ := h
    have r1 := hr.mono (j := 1) (by omega)
    have r2 := hr.mono (j := 2) (by omega)
    have r3 := hr.mono (j := 3) (by omega)
    have r4 := hr.mono (j := 4) (by omega)
    have r23 := hr.mono (j := 23) (by omega)
    have r24 := hr.mono (j := 24) (by omega)
    have r30 := hr.mono (j := 30) (by omega)
    refine ⟨_, pss_cons (ps_for PassesOwn.never rfl (pi_range1 (by rfl) X.range (pa_cons (pe_callB (L2.call_max2 rfl) (by rfl) X.max (by decide +kernel) (pa_cons pe_int (pa_cons (pe_callB (L2.call_min2 rfl) (by rfl) X.min (by decide +kernel)
            (pa_cons pe_int (pa_cons (pe_callB call_len_seq (by rfl) X.len PySem.boot_len (pa_cons (pv 0) pa_nil)) pa_nil))) pa_nil))) pa_nil)) (pg_name (i := 1) scLaw.nd rfl (.inl rfl))
        (pss_cons (ps_set (i := 2) scLaw.nd rfl (.inr rfl) (pe_call GP r1 (by rfl) X.gl_pot X.fl_pot.kp X.bl_pot .nil pass0 (pa_cons (pv 0) (pa_cons (pv 1) pa_nil))))
        (pss_cons (ps_set (i := 3) scLaw.nd rfl (.inl rfl) (pe_op op_cat (pe_lst (pa_cons (pe_tup pa_nil) (pa_cons (pe_tup (pa_cons (pe_tup (pa_cons pe_int (pa_cons pe_int pa_nil))) pa_nil)) (pa_cons (pe_tup (pa_cons (pe_tup (pa_cons pe_int (pa_cons (pe_op op_pow pe_int pe_int) pa_nil))) pa_nil)) pa_nil))))
            (pe_lc (own := [("turn", 6)]) (g := gName 6) (tt := tYes) (te := tCall (spWide K) [] E0 (tCons (tVar 2) (tCons (tCall spOf [] E0 (tCons (tVar 2) (tCons (tLst (tCons (tC (.int 6)) (tCons (tC (.int 20)) (tCons (tC (.int 60)) tNil)))) tNil))) tNil))) rfl scLaw.nd (pi_range1 (by rfl) X.range (pa_cons pe_int pa_nil)) (blkOk_by (N := nmLaw) (sc := defScope sLaw) (by decide +kernel))
              (fun _ _ _ _ _ => pg_name (i := 6) scLaw.nd rfl (Or.inl rfl)) (fun _ _ _ _ _ => pts_nil) (fun _ _ _ _ _ => pe_call GD r4 (by rfl) X.gl_wide X.fl_wide.kp X.bl_wide .nil pass0 (pa_cons (pv 2) (pa_cons (pe_call GO r2 (by rfl) X.gl_of X.fl_of.kp X.bl_of .nil pass0 (pa_cons (pv 2) (pa_cons (pe_lst (pa_cons pe_int (pa_cons pe_int (pa_cons pe_int pa_nil)))) pa_nil))) pa_nil))))))
        (pss_cons (ps_if (pt_not (pt_val (pe_callB (cr_all rfl) (by rfl) X.all PyProof.Rows.boot_all (pa_cons
            (pe_lc (own := [("given", 4)]) (g := gName 4) (tt := tYes) (te := tCall (spRight K) [] E0 (tCons (tVar 4) tNil)) rfl scLaw.nd (pi_list (pv 3)) (blkOk_by (N := nmLaw) (sc := defScope sLaw) (by decide +kernel))
              (fun _ _ _ _ _ => pg_name (i := 4) scLaw.nd rfl (Or.inl rfl)) (fun _ _ _ _ _ => pts_nil) (fun _ _ _ _ _ => pe_callG GI hg hr (by rfl) X.gl_right X.fl_right.kp X.bl_right .nil pass0 (pa_cons (pv 4) pa_nil))) pa_nil))))
          (pss_one (ps_ret pe_bl)) pss_nil)
        (pss_cons (ps_set (i := 4) scLaw.nd rfl (.inl rfl) (pe_call GN r1 (by rfl) X.gl_runs X.fl_runs.kp X.bl_runs .nil pass0 (pa_cons (pe_op op_cat (pe_call GQ r3 (by rfl) X.gl_sequence X.fl_sequence.kp X.bl_sequence .nil pass0 (pa_cons (pv 2) (pa_cons pe_int pa_nil))) (pe_lst (pa_cons pe_int pa_nil))) pa_nil)))
        (pss_cons (ps_set (i := 5) scLaw.nd rfl (.inl rfl) (pe_call GR r30 (by rfl) X.grepeated X.frepeated.kp X.brepeated .nil pass0 (pa_cons (pv 4) (pa_cons (pe_op op_add (pe_op op_pow pe_int pe_int) (pe_call GT r1 (by rfl) X.gl_take X.fl_take.kp X.bl_take .nil pass0 (pa_cons (pv 2) (pa_cons (pe_op op_pow pe_int pe_int) pa_nil)))) pa_nil))))
        (pss_one (ps_if (pt_cmpR op_ne (pe_call GS r24 (by rfl) X.gshow_tree X.fshow_tree.kp X.bshow_tree .nil pass0 (pa_cons (pv 5) pa_nil)) (pe_call GX r23 (by rfl) X.gl_text X.fl_text.kp X.bl_text .nil pass0 (pa_cons (pv 5) pa_nil)) (nomark _))
          (pss_one (ps_ret pe_bl)) pss_nil))))))))
      (pss_one (ps_ret pe_bl)), ?_⟩
    refine ⟨.ref a, rfl, a, _, rfl, .inl hS, 3, _, rfl, 1, _, rfl, _, rfl, ?_, ?_, ?_⟩
    · show -(2 ^ 62) ≤ (if (if (((ns.map V.int).length : Nat) : Int) < 3 then (((ns.map V.int).length : Nat) : Int) else 3) > 1 then (if (((ns.map V.int).length : Nat) : Int) < 3 then (((ns.map V.int).length : Nat) : Int) else 3) else 1)
      split <;> (try split) <;> omega
    · show (if (if (((ns.map V.int).length : Nat) : Int) < 3 then (((ns.map V.int).length : Nat) : Int) else 3) > 1 then (if (((ns.map V.int).length : Nat) : Int) < 3 then (((ns.map V.int).length : Nat) : Int) else 3) else 1) < 2 ^ 62
      split <;> (try split) <;> omega
    have turns : (if (if (((ns.map V.int).length : Nat) : Int) < 3 then (((ns.map V.int).length : Nat) : Int) else 3) > 1 then (if (((ns.map V.int).length : Nat) : Int) < 3 then (((ns.map V.int).length : Nat) : Int) else 3) else 1).toNat ≤ 3 := by
      split <;> (try split) <;> omega
    refine for_range (fun i σ H' => ∃ y1 y2 y3 y4 y5, σ = [some (.ref a), y1, y2, y3, y4, y5, none] ∧ Same H H') ⟨none, none, none, none, none, rfl, Same.refl H⟩ (fun k σ H1 hk hp => ?_) (fun σ H' hp => ?_)
    rotate_left
    · obtain ⟨y1, y2, y3, y4, y5, rfl, sm⟩ := hp
      exact q _
    obtain ⟨y1, y2, y3, y4, y5, rfl, sm⟩ := hp
    have hk3 : k < 3 := Nat.lt_of_lt_of_le hk turns
    refine ⟨.ref a, rfl, _, rfl, a, ns, k, ?_, sm.seq hS, by omega, by omega, fun p o np po => ?_⟩
    · show [V.ref a, V.int (0 + (k : Int))] = _
      rw [Int.zero_add]
    -- the given ones
    refine ⟨(show 0 ≤ sizeLine from by decide), fun t1 n1 => ⟨(show 2 ≤ sizeLine from by decide), fun t2 n2 => ⟨(show 1 ≤ sizeLine from by decide), fun t3 n3 => ⟨10, 60, rfl, rfl, ⟨by decide, by decide, by decide⟩, (show 2 ≤ sizeLine from by decide), fun t4 n4 => ⟨(show 1 ≤ sizeLine from by decide), fun t5 n5 => ⟨(show 3 ≤ sizeLine from by decide), fun l6 n6 => ?_⟩⟩⟩⟩⟩⟩
    have l6p : l6 ≠ p := Pot.ne ((((((Pot.put po).new n1).new n2).new n3).new n4).new n5) n6
    have s46 := (sameN (o := .tup [V.ref t4]) n5).trans (sameN (o := .lst [V.ref t1, .ref t3, .ref t5]) n6)
    have s26 := ((sameN (o := .tup [V.ref t2]) n3).trans (sameN (o := .tup [V.int 0, .int ((10 : Int) ^ (60 : Int).toNat)]) n4)).trans s46
    generalize hH : upd _ l6 (.lst [V.ref t1, .ref t3, .ref t5]) = H6
    have b06 : But p H1 H6 := by
      rw [← hH]
      exact (((((But.set (o := o)).trans (.new n1)).trans (.new n2)).trans (.new n3)).trans (.new n4)).trans ((But.new n5).trans (.new n6))
    have p6 : Pot H6 p 0 := by
      rw [← hH]
      exact ((((((Pot.put po).new n1).new n2).new n3).new n4).new n5).new n6
    have h1 : H6 t1 = some (.tup []) := by
      rw [← hH]
      exact ((sameN (o := .tup [V.int 7, .int 1]) n2).trans s26) t1 _ upd_same
    have h2 : H6 t2 = some (.tup [V.int 7, .int 1]) := by
      rw [← hH]
      exact s26 t2 _ upd_same
    have h3 : H6 t3 = some (.tup [V.ref t2]) := by
      rw [← hH]
      exact ((sameN (o := .tup [V.int 0, .int ((10 : Int) ^ (60 : Int).toNat)]) n4).trans s46) t3 _ upd_same
    have h4 : H6 t4 = some (.tup [V.int 0, .int ((10 : Int) ^ (60 : Int).toNat)]) := by
      rw [← hH]
      exact s46 t4 _ upd_same
    have h5 : H6 t5 = some (.tup [V.ref t4]) := by
      rw [← hH]
      exact (sameN (o := .lst [V.ref t1, .ref t3, .ref t5]) n6) t5 _ upd_same
    have h6 : H6 l6 = some (.lst [V.ref t1, .ref t3, .ref t5]) := by
      rw [← hH]
      exact upd_same
    clear s26 s46 hH
    have g1 : Gv K H6 (.ref t1) := ⟨t1, [], [], rfl, .inl (.inl h1), .nil, ⟨(fun p hp => nomatch hp), fun i p q hp _ => by simp at hp⟩, by decide⟩
    have g3 : Gv K H6 (.ref t3) := ⟨t3, [.ref t2], [(.el 7, 1)], rfl, .inl (.inl h3), PrsV.one (p := (.el 7, 1)) (.inl (.inl h2)) (.ofEl 7), giv_one62 (by decide) (by decide) (by decide), (show 1 ≤ 300 by decide)⟩
    have g5 : Gv K H6 (.ref t5) := ⟨t5, [.ref t4], [(.el 0, 10 ^ 60)], rfl, .inl (.inl h5), PrsV.one (p := (.el 0, 10 ^ 60)) (.inl (.inl (h4.trans (congrArg (fun z => some (HO.tup [V.int 0, z])) (int_congr (by decide)))))) (.ofEl 0), giv_one62 (by decide) (by decide) (by decide), (show 1 ≤ 300 by decide)⟩
    refine ⟨8, rfl, by decide, by decide, fun D nD => ?_⟩
    have nDp : D ≠ p := fun z => p6.ne (z ▸ nD) rfl
    refine lc_range (fun i H' => ∃ xs : List V, xs.length = i ∧ (∀ x ∈ xs, Gv K H' x) ∧ H' D = some (.lst xs) ∧ But p H6 H' ∧ Pot H' p (1010 * i)) ⟨[], rfl, (fun b hb => nomatch hb), upd_same, .new nD, p6.new nD⟩ (fun i H2 hi hp => ?_) (fun H2 hp => ?_)
    · obtain ⟨xs, c1, c2, c3, b2, p2⟩ := hp
      have hi' : i < 8 := hi
      refine ⟨rfl, .ref p, rfl, .ref p, rfl, (show 3 ≤ sizeLine from by decide), fun l m => ⟨p, l, _, _, rfl, p2.new m, by omega, p2.ne m, upd_same, List.cons_ne_nil _ _, (show 3 ≤ 1000 from by decide), fun j x H3 hj b3 p3 => ?_⟩⟩
      obtain ⟨most, rfl, m60⟩ : ∃ k : Nat, x = .int k ∧ k ≤ 60 := by
        have := List.mem_of_getElem? hj
        simp only [List.mem_cons, List.not_mem_nil, or_false] at this
        rcases this with rfl | rfl | rfl
        · exact ⟨6, rfl, by decide⟩
        · exact ⟨20, rfl, by decide⟩
        · exact ⟨60, rfl, by decide⟩
      refine ⟨p, most, _, rfl, by omega, p3, by omega, fun H4 a' ws gs b4 na ha kP giv cnt lg p4 => ?_⟩
      have b24 := (But.new m).trans (b3.trans b4)
      have c4 := b24.at nDp c3
      have tp : Tups K H2 H4 := b24.tupsP p2
      have tpD : Tups K H4 (upd H4 D (.lst (xs ++ [.ref a']))) := (But.set (p := D)).tups c4
      refine ⟨xs, c4, ?_, xs ++ [.ref a'], by rw [List.length_append, c1]; rfl, fun x hx => ?_, upd_same, ?_, ?_⟩
      · rw [c1]
        exact line5 (by omega)
      · rcases List.mem_append.mp hx with hx | hx
        · exact ((c2 x hx).up tp).up tpD
        · rw [List.mem_singleton.mp hx]
          exact Gv.up ⟨a', ws, gs, rfl, .inl (.inl ha), kP, giv, by omega⟩ tpD
      · exact But.wr (b2.trans b24) nD
      · exact (p4.oth nDp.symm).le (by omega)
    obtain ⟨xs, c1, c2, c3, b2, p2⟩ := hp
    have hl6 := b2.at l6p h6
    refine ⟨l6, D, _, xs, rfl, rfl, hl6, c3, Nat.le_trans (show 3 + xs.length ≤ 11 by omega) (by decide), fun S nS => ?_⟩
    have tp6 : Tups K H6 (upd H2 S (.lst ([V.ref t1, .ref t3, .ref t5] ++ xs))) := (b2.trans (.new nS)).tupsP p6
    have tpS : Tups K H2 (upd H2 S (.lst ([V.ref t1, .ref t3, .ref t5] ++ xs))) := (But.new (p := p) nS).tupsP p2
    have gS : ∀ x ∈ [V.ref t1, .ref t3, .ref t5] ++ xs, Gv K (upd H2 S (.lst ([V.ref t1, .ref t3, .ref t5] ++ xs))) x := fun x hx => by
      rcases List.mem_append.mp hx with hx | hx
      · simp only [List.mem_cons, List.not_mem_nil, or_false] at hx
        rcases hx with rfl | rfl | rfl
        · exact g1.up tp6
        · exact g3.up tp6
        · exact g5.up tp6
      · exact (c2 x hx).up tpS
    have hSl : upd H2 S (.lst ([V.ref t1, .ref t3, .ref t5] ++ xs)) S = some (.lst ([V.ref t1, .ref t3, .ref t5] ++ xs)) := upd_same
    have lS : ([V.ref t1, .ref t3, .ref t5] ++ xs).length ≤ 11 := by
      rw [List.length_append, c1]
      exact Nat.le_refl _
    have p7 := p2.new (o := .lst ([V.ref t1, .ref t3, .ref t5] ++ xs)) nS
    have b07 := (b06.trans b2).trans (.new (o := .lst ([V.ref t1, .ref t3, .ref t5] ++ xs)) nS)
    revert gS hSl p7 b07 lS
    clear tp6 tpS g1 g3 g5 h1 h2 h3 h4 h5 h6 hl6 c1 c2 c3
    generalize [V.ref t1, .ref t3, .ref t5] ++ xs = ys
    generalize upd H2 S (.lst ys) = H7
    intro gS hSl lS p7 b07
    refine ⟨.ref S, rfl, S, rfl, ⟨_, .inl (.inl hSl)⟩, fun E1 nE => ?_⟩
    refine lc_list (xs := ys) (fun i H' => ∃ bs : List Bool, bs.length = i ∧ (∀ b ∈ bs, b = true) ∧ H' E1 = some (.lst (bs.map V.bl)) ∧ Same H7 H') ⟨[], rfl, (fun b hb => nomatch hb), upd_same, sameN nE⟩ (fun i H' _ hp => ?_) (fun i u H' hu hp => ?_) (fun H' hp => ?_)
    · obtain ⟨bs, _, _, _, s8⟩ := hp
      exact .inl (.inl (s8 _ _ hSl))
    · obtain ⟨bs, d1, d2, d3, s8⟩ := hp
      obtain ⟨a', ws, gs, rfl, ha, kP, giv, l300⟩ := (gS u (List.mem_of_getElem? hu)).up (.of s8)
      have il := (List.getElem?_eq_some_iff.mp hu).1
      refine ⟨rfl, _, rfl, a', ws, gs, rfl, ha, kP, giv, l300, fun H9 s9 => ⟨bs.map V.bl, s9 _ _ d3, ?_, bs ++ [true], by rw [List.length_append, d1]; rfl, fun b hb => ?_, ?_, sameW (s8.trans s9) nE⟩⟩
      · rw [List.length_map, d1]
        exact line5 (by omega)
      · rcases List.mem_append.mp hb with hb | hb
        · exact d2 b hb
        · simpa using hb
      · rw [upd_same, List.map_append]
        rfl
    obtain ⟨bs, d1, d2, d3, s8⟩ := hp
    have eall : bs.all id = true := by
      rw [List.all_eq_true]
      intro b hb
      rw [d2 b hb]
      rfl
    refine ⟨E1, bs, rfl, .inl (.inl d3), _, rfl, ?_⟩
    rw [eall]
    have p8 := p7.same s8
    have b08 := b07.trans (Same.but s8)
    -- far trees
    refine ⟨.ref p, rfl, p, 8, _, rfl, by decide, p8, by omega, fun H9 sa zs ms b9 nsa hsa kN el ln p9 => ⟨(show 1 ≤ sizeLine from by decide), fun l9 n9 => ⟨sa, l9, zs, [.int 3], rfl, rfl, sameN n9 _ _ hsa, upd_same, ?_, fun c9 nc9 => ?_⟩⟩⟩
    · have := kN.len
      exact Nat.le_trans (show zs.length + 1 ≤ 9 by omega) (by decide)
    have s10 := (sameN (o := .lst [V.int 3]) n9).trans (sameN (o := .lst (zs ++ [V.int 3])) nc9)
    have el3 : EL (ms ++ [.el 3]) := el.app (by decide)
    have lm : (ms ++ [Nd.el 3]).length ≤ 9 := by rw [List.length_append, List.length_singleton]; omega
    refine ⟨c9, zs ++ [.int 3], ms ++ [.el 3], 0, rfl, .inl (.inl upd_same), (kN.up (.of s10)).app (.cons (.ofEl 3) .nil), el3.ok, by decide, by omega, fun H11 ga wg s11 hga kP => ?_⟩
    have p11 := (p9.same s10).same s11
    have b011 := ((b08.trans b9).trans (Same.but s10)).trans (Same.but s11)
    have gl := grp_len (ms ++ [Nd.el 3])
    have giv : Giv (grp (ms ++ [.el 3])) := giv_grp el3 (by omega)
    have gne : grp (ms ++ [Nd.el 3]) ≠ [] := fun z => by
      have := xp_grp (ms ++ [Nd.el 3])
      rw [z] at this
      have := congrArg List.length this
      rw [List.length_append] at this
      simp [xp] at this
    refine ⟨.ref ga, rfl, 10, 12, rfl, rfl, ⟨by decide, by decide, by decide⟩, .ref p, rfl, 10, 12, rfl, rfl, ⟨by decide, by decide, by decide⟩, p, _, _, rfl, p11, by omega, by decide, by decide +kernel, fun d H12 d0 d1 b12 p12 => ⟨_, d, rfl, rfl, ?_⟩⟩
    have t12 : (10 : Int) ^ (12 : Int).toNat = 1000000000000 := by decide
    have d1' : d < (10 : Int) ^ (12 : Int).toNat := d1
    obtain ⟨dn, rfl⟩ : ∃ n : Nat, d = n := ⟨d.toNat, by omega⟩
    have tp12 : Tups K H11 H12 := b12.tupsP p11
    refine ⟨ga, wg, grp (ms ++ [.el 3]), 10 ^ 12 + dn, ?_, tp12 _ _ (.inl (.inl hga)), PrsV.up tp12 kP, giv, gne, by omega, by omega, ?_, fun H13 v s13 T => ?_⟩
    · show [V.ref ga, V.int ((10 : Int) ^ (12 : Int).toNat + (dn : Int))] = _
      rw [t12]
      exact congrArg (fun z => [V.ref ga, V.int z]) (by omega)
    · rw [xp_grp]
      exact Nat.le_trans (Nat.mul_le_mul lm (show 10 ^ 12 + dn ≤ 2 * 10 ^ 12 by omega)) (by decide)
    obtain ⟨n, i, hn, ok, l10, hh, _, _⟩ := T
    refine ⟨v, rfl, ?_⟩
    dsimp only [tNil]
    refine ⟨v, rfl, .inr ⟨n, _, hn, ok, l10, hh, fun H14 s14 => ?_⟩⟩
    refine ⟨v, rfl, v, n, _, rfl, hn.up (.of s14), ok, wide10 l10, hh, fun H15 s15 => ⟨rfl, _, rfl, ?_⟩⟩
    rw [decide_eq_true rfl]
    exact iteF ⟨_, _, _, _, _, rfl, sm.trans (((b011.trans b12).trans (Same.but (s13.trans (s14.trans s15)))).same np)⟩
end
end C62

set_option Elab.async false
set_option linter.all false
set_option maxRecDepth 100000
namespace C62
open PySem PySem.Spec PyProof.Rows L2 Loc RZ
set_option maxHeartbeats 0 in
theorem all_mk {l : PySem.W.OpenLaw} {w : World} {K : PySem.W.Frag} {h : Heap} {mg : Str → Option Value} {fa : Addr} (X : K.In h) (G : h.Ns mainGlobals mg) (hfa : mg "law" = some (.ref fa))
    {f0 : Addr} {od0 an0 : Option Addr} {sl0 : Array (Option Value)} {oc0 kV0 dc0 pm0 cd0 ct0 : Value}
    (a0 : PySem.W.nsIn K mainGlobals "is_whole" = some (some (.ref f0)))
    (l0 : K.lookup f0 = some ⟨oc0, od0, .func (PySem.W.fnOf "is_whole" "is_whole" (defArgs sWhole) (defBody sWhole) (defScope sWhole) .none kV0 dc0 pm0 an0 cd0 ct0), sl0⟩)
    (c0 : PySem.W.codeIn K cd0 "is_whole" = true) (k0 : PySem.W.keepIn K (.ref f0) = true)
    {f1 : Addr} {od1 an1 : Option Addr} {sl1 : Array (Option Value)} {oc1 kV1 dc1 pm1 cd1 ct1 : Value}
    (a1 : PySem.W.nsIn K mainGlobals "is_element" = some (some (.ref f1)))
    (l1 : K.lookup f1 = some ⟨oc1, od1, .func (PySem.W.fnOf "is_element" "is_element" (defArgs sElement) (defBody sElement) (defScope sElement) .none kV1 dc1 pm1 an1 cd1 ct1), sl1⟩)
    (c1 : PySem.W.codeIn K cd1 "is_element" = true) (k1 : PySem.W.keepIn K (.ref f1) = true)
    {f2 : Addr} {od2 an2 : Option Addr} {sl2 : Array (Option Value)} {oc2 kV2 dc2 pm2 cd2 ct2 : Value}
    (a2 : PySem.W.nsIn K mainGlobals "is_count" = some (some (.ref f2)))
    (l2 : K.lookup f2 = some ⟨oc2, od2, .func (PySem.W.fnOf "is_count" "is_count" (defArgs sCount) (defBody sCount) (defScope sCount) .none kV2 dc2 pm2 an2 cd2 ct2), sl2⟩)
    (c2 : PySem.W.codeIn K cd2 "is_count" = true) (k2 : PySem.W.keepIn K (.ref f2) = true)
    {f3 : Addr} {od3 an3 : Option Addr} {sl3 : Array (Option Value)} {oc3 kV3 dc3 pm3 cd3 ct3 : Value}
    (a3 : PySem.W.nsIn K mainGlobals "is_run" = some (some (.ref f3)))
    (l3 : K.lookup f3 = some ⟨oc3, od3, .func (PySem.W.fnOf "is_run" "is_run" (defArgs sIsRun) (defBody sIsRun) (defScope sIsRun) .none kV3 dc3 pm3 an3 cd3 ct3), sl3⟩)
    (c3 : PySem.W.codeIn K cd3 "is_run" = true) (k3 : PySem.W.keepIn K (.ref f3) = true)
    {f4 : Addr} {od4 an4 : Option Addr} {sl4 : Array (Option Value)} {oc4 kV4 dc4 pm4 cd4 ct4 : Value}
    (a4 : PySem.W.nsIn K mainGlobals "is_block" = some (some (.ref f4)))
    (l4 : K.lookup f4 = some ⟨oc4, od4, .func (PySem.W.fnOf "is_block" "is_block" (defArgs sIsBlk) (defBody sIsBlk) (defScope sIsBlk) .none kV4 dc4 pm4 an4 cd4 ct4), sl4⟩)
    (c4 : PySem.W.codeIn K cd4 "is_block" = true) (k4 : PySem.W.keepIn K (.ref f4) = true)
    {f5 : Addr} {od5 an5 : Option Addr} {sl5 : Array (Option Value)} {oc5 kV5 dc5 pm5 cd5 ct5 : Value}
    (a5 : PySem.W.nsIn K mainGlobals "base_of" = some (some (.ref f5)))
    (l5 : K.lookup f5 = some ⟨oc5, od5, .func (PySem.W.fnOf "base_of" "base_of" (defArgs sBase) (defBody sBase) (defScope sBase) .none kV5 dc5 pm5 an5 cd5 ct5), sl5⟩)
    (c5 : PySem.W.codeIn K cd5 "base_of" = true) (k5 : PySem.W.keepIn K (.ref f5) = true)
    {f6 : Addr} {od6 an6 : Option Addr} {sl6 : Array (Option Value)} {oc6 kV6 dc6 pm6 cd6 ct6 : Value}
    (a6 : PySem.W.nsIn K mainGlobals "run_of" = some (some (.ref f6)))
    (l6 : K.lookup f6 = some ⟨oc6, od6, .func (PySem.W.fnOf "run_of" "run_of" (defArgs sRunOf) (defBody sRunOf) (defScope sRunOf) .none kV6 dc6 pm6 an6 cd6 ct6), sl6⟩)
    (c6 : PySem.W.codeIn K cd6 "run_of" = true) (k6 : PySem.W.keepIn K (.ref f6) = true)
    {f7 : Addr} {od7 an7 : Option Addr} {sl7 : Array (Option Value)} {oc7 kV7 dc7 pm7 cd7 ct7 : Value}
    (a7 : PySem.W.nsIn K mainGlobals "is_node" = some (some (.ref f7)))
    (l7 : K.lookup f7 = some ⟨oc7, od7, .func (PySem.W.fnOf "is_node" "is_node" (defArgs sIsNode) (defBody sIsNode) (defScope sIsNode) .none kV7 dc7 pm7 an7 cd7 ct7), sl7⟩)
    (c7 : PySem.W.codeIn K cd7 "is_node" = true) (k7 : PySem.W.keepIn K (.ref f7) = true)
    {f8 : Addr} {od8 an8 : Option Addr} {sl8 : Array (Option Value)} {oc8 kV8 dc8 pm8 cd8 ct8 : Value}
    (a8 : PySem.W.nsIn K mainGlobals "_can_be_parts" = some (some (.ref f8)))
    (l8 : K.lookup f8 = some ⟨oc8, od8, .func (PySem.W.fnOf "_can_be_parts" "_can_be_parts" (defArgs sParts) (defBody sParts) (defScope sParts) .none kV8 dc8 pm8 an8 cd8 ct8), sl8⟩)
    (c8 : PySem.W.codeIn K cd8 "_can_be_parts" = true) (k8 : PySem.W.keepIn K (.ref f8) = true)
    {f9 : Addr} {od9 an9 : Option Addr} {sl9 : Array (Option Value)} {oc9 kV9 dc9 pm9 cd9 ct9 : Value}
    (a9 : PySem.W.nsIn K mainGlobals "_fit_together" = some (some (.ref f9)))
    (l9 : K.lookup f9 = some ⟨oc9, od9, .func (PySem.W.fnOf "_fit_together" "_fit_together" (defArgs sFit) (defBody sFit) (defScope sFit) .none kV9 dc9 pm9 an9 cd9 ct9), sl9⟩)
    (c9 : PySem.W.codeIn K cd9 "_fit_together" = true) (k9 : PySem.W.keepIn K (.ref f9) = true)
    {f10 : Addr} {od10 an10 : Option Addr} {sl10 : Array (Option Value)} {oc10 kV10 dc10 pm10 cd10 ct10 : Value}
    (a10 : PySem.W.nsIn K mainGlobals "level_of" = some (some (.ref f10)))
    (l10 : K.lookup f10 = some ⟨oc10, od10, .func (PySem.W.fnOf "level_of" "level_of" (defArgs sLevel) (defBody sLevel) (defScope sLevel) .none kV10 dc10 pm10 an10 cd10 ct10), sl10⟩)
    (c10 : PySem.W.codeIn K cd10 "level_of" = true) (k10 : PySem.W.keepIn K (.ref f10) = true)
    {f11 : Addr} {od11 an11 : Option Addr} {sl11 : Array (Option Value)} {oc11 kV11 dc11 pm11 cd11 ct11 : Value}
    (a11 : PySem.W.nsIn K mainGlobals "text_of" = some (some (.ref f11)))
    (l11 : K.lookup f11 = some ⟨oc11, od11, .func (PySem.W.fnOf "text_of" "text_of" (defArgs sText) (defBody sText) (defScope sText) .none kV11 dc11 pm11 an11 cd11 ct11), sl11⟩)
    (c11 : PySem.W.codeIn K cd11 "text_of" = true) (k11 : PySem.W.keepIn K (.ref f11) = true)
    {f12 : Addr} {od12 an12 : Option Addr} {sl12 : Array (Option Value)} {oc12 kV12 dc12 pm12 cd12 ct12 : Value}
    (a12 : PySem.W.nsIn K mainGlobals "node_with" = some (some (.ref f12)))
    (l12 : K.lookup f12 = some ⟨oc12, od12, .func (PySem.W.fnOf "node_with" "node_with" (defArgs s_node_with) (defBody s_node_with) (defScope s_node_with) .none kV12 dc12 pm12 an12 cd12 ct12), sl12⟩)
    (c12 : PySem.W.codeIn K cd12 "node_with" = true) (k12 : PySem.W.keepIn K (.ref f12) = true)
    {f13 : Addr} {od13 an13 : Option Addr} {sl13 : Array (Option Value)} {oc13 kV13 dc13 pm13 cd13 ct13 : Value}
    (a13 : PySem.W.nsIn K mainGlobals "_closed" = some (some (.ref f13)))
    (l13 : K.lookup f13 = some ⟨oc13, od13, .func (PySem.W.fnOf "_closed" "_closed" (defArgs s__closed) (defBody s__closed) (defScope s__closed) .none kV13 dc13 pm13 an13 cd13 ct13), sl13⟩)
    (c13 : PySem.W.codeIn K cd13 "_closed" = true) (k13 : PySem.W.keepIn K (.ref f13) = true)
    {f14 : Addr} {od14 an14 : Option Addr} {sl14 : Array (Option Value)} {oc14 kV14 dc14 pm14 cd14 ct14 : Value}
    (a14 : PySem.W.nsIn K mainGlobals "_read_element" = some (some (.ref f14)))
    (l14 : K.lookup f14 = some ⟨oc14, od14, .func (PySem.W.fnOf "_read_element" "_read_element" (defArgs s__read_element) (defBody s__read_element) (defScope s__read_element) .none kV14 dc14 pm14 an14 cd14 ct14), sl14⟩)
    (c14 : PySem.W.codeIn K cd14 "_read_element" = true) (k14 : PySem.W.keepIn K (.ref f14) = true)
    {f15 : Addr} {od15 an15 : Option Addr} {sl15 : Array (Option Value)} {oc15 kV15 dc15 pm15 cd15 ct15 : Value}
    (a15 : PySem.W.nsIn K mainGlobals "_read_count" = some (some (.ref f15)))
    (l15 : K.lookup f15 = some ⟨oc15, od15, .func (PySem.W.fnOf "_read_count" "_read_count" (defArgs s__read_count) (defBody s__read_count) (defScope s__read_count) .none kV15 dc15 pm15 an15 cd15 ct15), sl15⟩)
    (c15 : PySem.W.codeIn K cd15 "_read_count" = true) (k15 : PySem.W.keepIn K (.ref f15) = true)
    {f16 : Addr} {od16 an16 : Option Addr} {sl16 : Array (Option Value)} {oc16 kV16 dc16 pm16 cd16 ct16 : Value}
    (a16 : PySem.W.nsIn K mainGlobals "_digits_end" = some (some (.ref f16)))
    (l16 : K.lookup f16 = some ⟨oc16, od16, .func (PySem.W.fnOf "_digits_end" "_digits_end" (defArgs s__digits_end) (defBody s__digits_end) (defScope s__digits_end) .none kV16 dc16 pm16 an16 cd16 ct16), sl16⟩)
    (c16 : PySem.W.codeIn K cd16 "_digits_end" = true) (k16 : PySem.W.keepIn K (.ref f16) = true)
    {f17 : Addr} {od17 an17 : Option Addr} {sl17 : Array (Option Value)} {oc17 kV17 dc17 pm17 cd17 ct17 : Value}
    (a17 : PySem.W.nsIn K mainGlobals "whole_with" = some (some (.ref f17)))
    (l17 : K.lookup f17 = some ⟨oc17, od17, .func (PySem.W.fnOf "whole_with" "whole_with" (defArgs s_whole_with) (defBody s_whole_with) (defScope s_whole_with) .none kV17 dc17 pm17 an17 cd17 ct17), sl17⟩)
    (c17 : PySem.W.codeIn K cd17 "whole_with" = true) (k17 : PySem.W.keepIn K (.ref f17) = true)
    {f18 : Addr} {od18 an18 : Option Addr} {sl18 : Array (Option Value)} {oc18 kV18 dc18 pm18 cd18 ct18 : Value}
    (a18 : PySem.W.nsIn K mainGlobals "first_marks" = some (some (.ref f18)))
    (l18 : K.lookup f18 = some ⟨oc18, od18, .func (PySem.W.fnOf "first_marks" "first_marks" (defArgs sFirst) (defBody sFirst) (defScope sFirst) .none kV18 dc18 pm18 an18 cd18 ct18), sl18⟩)
    (c18 : PySem.W.codeIn K cd18 "first_marks" = true) (k18 : PySem.W.keepIn K (.ref f18) = true)
    {f19 : Addr} {od19 an19 : Option Addr} {sl19 : Array (Option Value)} {oc19 kV19 dc19 pm19 cd19 ct19 : Value}
    (a19 : PySem.W.nsIn K mainGlobals "_first_mark" = some (some (.ref f19)))
    (l19 : K.lookup f19 = some ⟨oc19, od19, .func (PySem.W.fnOf "_first_mark" "_first_mark" (defArgs sFM) (defBody sFM) (defScope sFM) .none kV19 dc19 pm19 an19 cd19 ct19), sl19⟩)
    (c19 : PySem.W.codeIn K cd19 "_first_mark" = true) (k19 : PySem.W.keepIn K (.ref f19) = true)
    {f20 : Addr} {od20 an20 : Option Addr} {sl20 : Array (Option Value)} {oc20 kV20 dc20 pm20 cd20 ct20 : Value}
    (a20 : PySem.W.nsIn K mainGlobals "_first_unlike" = some (some (.ref f20)))
    (l20 : K.lookup f20 = some ⟨oc20, od20, .func (PySem.W.fnOf "_first_unlike" "_first_unlike" (defArgs sFU) (defBody sFU) (defScope sFU) .none kV20 dc20 pm20 an20 cd20 ct20), sl20⟩)
    (c20 : PySem.W.codeIn K cd20 "_first_unlike" = true) (k20 : PySem.W.keepIn K (.ref f20) = true)
    {f21 : Addr} {od21 an21 : Option Addr} {sl21 : Array (Option Value)} {oc21 kV21 dc21 pm21 cd21 ct21 : Value}
    (a21 : PySem.W.nsIn K mainGlobals "_code_at" = some (some (.ref f21)))
    (l21 : K.lookup f21 = some ⟨oc21, od21, .func (PySem.W.fnOf "_code_at" "_code_at" (defArgs sCodeAt) (defBody sCodeAt) (defScope sCodeAt) .none kV21 dc21 pm21 an21 cd21 ct21), sl21⟩)
    (c21 : PySem.W.codeIn K cd21 "_code_at" = true) (k21 : PySem.W.keepIn K (.ref f21) = true)
    {f22 : Addr} {od22 an22 : Option Addr} {sl22 : Array (Option Value)} {oc22 kV22 dc22 pm22 cd22 ct22 : Value}
    (a22 : PySem.W.nsIn K mainGlobals "next_marks" = some (some (.ref f22)))
    (l22 : K.lookup f22 = some ⟨oc22, od22, .func (PySem.W.fnOf "next_marks" "next_marks" (defArgs sNext) (defBody sNext) (defScope sNext) .none kV22 dc22 pm22 an22 cd22 ct22), sl22⟩)
    (c22 : PySem.W.codeIn K cd22 "next_marks" = true) (k22 : PySem.W.keepIn K (.ref f22) = true)
    {f23 : Addr} {od23 an23 : Option Addr} {sl23 : Array (Option Value)} {oc23 kV23 dc23 pm23 cd23 ct23 : Value}
    (a23 : PySem.W.nsIn K mainGlobals "_next_mark" = some (some (.ref f23)))
    (l23 : K.lookup f23 = some ⟨oc23, od23, .func (PySem.W.fnOf "_next_mark" "_next_mark" (defArgs sNm) (defBody sNm) (defScope sNm) .none kV23 dc23 pm23 an23 cd23 ct23), sl23⟩)
    (c23 : PySem.W.codeIn K cd23 "_next_mark" = true) (k23 : PySem.W.keepIn K (.ref f23) = true)
    {f24 : Addr} {od24 an24 : Option Addr} {sl24 : Array (Option Value)} {oc24 kV24 dc24 pm24 cd24 ct24 : Value}
    (a24 : PySem.W.nsIn K mainGlobals "marks" = some (some (.ref f24)))
    (l24 : K.lookup f24 = some ⟨oc24, od24, .func (PySem.W.fnOf "marks" "marks" (defArgs sMarks) (defBody sMarks) (defScope sMarks) .none kV24 dc24 pm24 an24 cd24 ct24), sl24⟩)
    (c24 : PySem.W.codeIn K cd24 "marks" = true) (k24 : PySem.W.keepIn K (.ref f24) = true)
    {f25 : Addr} {od25 an25 : Option Addr} {sl25 : Array (Option Value)} {oc25 kV25 dc25 pm25 cd25 ct25 : Value}
    (a25 : PySem.W.nsIn K mainGlobals "peaks" = some (some (.ref f25)))
    (l25 : K.lookup f25 = some ⟨oc25, od25, .func (PySem.W.fnOf "peaks" "peaks" (defArgs sPeaks) (defBody sPeaks) (defScope sPeaks) .none kV25 dc25 pm25 an25 cd25 ct25), sl25⟩)
    (c25 : PySem.W.codeIn K cd25 "peaks" = true) (k25 : PySem.W.keepIn K (.ref f25) = true)
    {f26 : Addr} {od26 an26 : Option Addr} {sl26 : Array (Option Value)} {oc26 kV26 dc26 pm26 cd26 ct26 : Value}
    (a26 : PySem.W.nsIn K mainGlobals "cuts" = some (some (.ref f26)))
    (l26 : K.lookup f26 = some ⟨oc26, od26, .func (PySem.W.fnOf "cuts" "cuts" (defArgs sCuts) (defBody sCuts) (defScope sCuts) .none kV26 dc26 pm26 an26 cd26 ct26), sl26⟩)
    (c26 : PySem.W.codeIn K cd26 "cuts" = true) (k26 : PySem.W.keepIn K (.ref f26) = true)
    {f27 : Addr} {od27 an27 : Option Addr} {sl27 : Array (Option Value)} {oc27 kV27 dc27 pm27 cd27 ct27 : Value}
    (a27 : PySem.W.nsIn K mainGlobals "blocks" = some (some (.ref f27)))
    (l27 : K.lookup f27 = some ⟨oc27, od27, .func (PySem.W.fnOf "blocks" "blocks" (defArgs sBlocks) (defBody sBlocks) (defScope sBlocks) .none kV27 dc27 pm27 an27 cd27 ct27), sl27⟩)
    (c27 : PySem.W.codeIn K cd27 "blocks" = true) (k27 : PySem.W.keepIn K (.ref f27) = true)
    {f28 : Addr} {od28 an28 : Option Addr} {sl28 : Array (Option Value)} {oc28 kV28 dc28 pm28 cd28 ct28 : Value}
    (a28 : PySem.W.nsIn K mainGlobals "made_runs" = some (some (.ref f28)))
    (l28 : K.lookup f28 = some ⟨oc28, od28, .func (PySem.W.fnOf "made_runs" "made_runs" (defArgs sMade) (defBody sMade) (defScope sMade) .none kV28 dc28 pm28 an28 cd28 ct28), sl28⟩)
    (c28 : PySem.W.codeIn K cd28 "made_runs" = true) (k28 : PySem.W.keepIn K (.ref f28) = true)
    {f29 : Addr} {od29 an29 : Option Addr} {sl29 : Array (Option Value)} {oc29 kV29 dc29 pm29 cd29 ct29 : Value}
    (a29 : PySem.W.nsIn K mainGlobals "is_runs" = some (some (.ref f29)))
    (l29 : K.lookup f29 = some ⟨oc29, od29, .func (PySem.W.fnOf "is_runs" "is_runs" (defArgs sIsRuns) (defBody sIsRuns) (defScope sIsRuns) .none kV29 dc29 pm29 an29 cd29 ct29), sl29⟩)
    (c29 : PySem.W.codeIn K cd29 "is_runs" = true) (k29 : PySem.W.keepIn K (.ref f29) = true)
    {f30 : Addr} {od30 an30 : Option Addr} {sl30 : Array (Option Value)} {oc30 kV30 dc30 pm30 cd30 ct30 : Value}
    (a30 : PySem.W.nsIn K mainGlobals "_is_pair" = some (some (.ref f30)))
    (l30 : K.lookup f30 = some ⟨oc30, od30, .func (PySem.W.fnOf "_is_pair" "_is_pair" (defArgs sIsPair) (defBody sIsPair) (defScope sIsPair) .none kV30 dc30 pm30 an30 cd30 ct30), sl30⟩)
    (c30 : PySem.W.codeIn K cd30 "_is_pair" = true) (k30 : PySem.W.keepIn K (.ref f30) = true)
    {f31 : Addr} {od31 an31 : Option Addr} {sl31 : Array (Option Value)} {oc31 kV31 dc31 pm31 cd31 ct31 : Value}
    (a31 : PySem.W.nsIn K mainGlobals "rows_of" = some (some (.ref f31)))
    (l31 : K.lookup f31 = some ⟨oc31, od31, .func (PySem.W.fnOf "rows_of" "rows_of" (defArgs sRows) (defBody sRows) (defScope sRows) .none kV31 dc31 pm31 an31 cd31 ct31), sl31⟩)
    (c31 : PySem.W.codeIn K cd31 "rows_of" = true) (k31 : PySem.W.keepIn K (.ref f31) = true)
    {f32 : Addr} {od32 an32 : Option Addr} {sl32 : Array (Option Value)} {oc32 kV32 dc32 pm32 cd32 ct32 : Value}
    (a32 : PySem.W.nsIn K mainGlobals "tree_of" = some (some (.ref f32)))
    (l32 : K.lookup f32 = some ⟨oc32, od32, .func (PySem.W.fnOf "tree_of" "tree_of" (defArgs sTree) (defBody sTree) (defScope sTree) .none kV32 dc32 pm32 an32 cd32 ct32), sl32⟩)
    (c32 : PySem.W.codeIn K cd32 "tree_of" = true) (k32 : PySem.W.keepIn K (.ref f32) = true)
    {f33 : Addr} {od33 an33 : Option Addr} {sl33 : Array (Option Value)} {oc33 kV33 dc33 pm33 cd33 ct33 : Value}
    (a33 : PySem.W.nsIn K mainGlobals "melted" = some (some (.ref f33)))
    (l33 : K.lookup f33 = some ⟨oc33, od33, .func (PySem.W.fnOf "melted" "melted" (defArgs s_melted) (defBody s_melted) (defScope s_melted) .none kV33 dc33 pm33 an33 cd33 ct33), sl33⟩)
    (c33 : PySem.W.codeIn K cd33 "melted" = true) (k33 : PySem.W.keepIn K (.ref f33) = true)
    {f34 : Addr} {od34 an34 : Option Addr} {sl34 : Array (Option Value)} {oc34 kV34 dc34 pm34 cd34 ct34 : Value}
    (a34 : PySem.W.nsIn K mainGlobals "run_count" = some (some (.ref f34)))
    (l34 : K.lookup f34 = some ⟨oc34, od34, .func (PySem.W.fnOf "run_count" "run_count" (defArgs sCnt) (defBody sCnt) (defScope sCnt) .none kV34 dc34 pm34 an34 cd34 ct34), sl34⟩)
    (c34 : PySem.W.codeIn K cd34 "run_count" = true) (k34 : PySem.W.keepIn K (.ref f34) = true)
    {f35 : Addr} {od35 an35 : Option Addr} {sl35 : Array (Option Value)} {oc35 kV35 dc35 pm35 cd35 ct35 : Value}
    (a35 : PySem.W.nsIn K mainGlobals "_pairs_of" = some (some (.ref f35)))
    (l35 : K.lookup f35 = some ⟨oc35, od35, .func (PySem.W.fnOf "_pairs_of" "_pairs_of" (defArgs sPairs) (defBody sPairs) (defScope sPairs) .none kV35 dc35 pm35 an35 cd35 ct35), sl35⟩)
    (c35 : PySem.W.codeIn K cd35 "_pairs_of" = true) (k35 : PySem.W.keepIn K (.ref f35) = true)
    {f36 : Addr} {od36 an36 : Option Addr} {sl36 : Array (Option Value)} {oc36 kV36 dc36 pm36 cd36 ct36 : Value}
    (a36 : PySem.W.nsIn K mainGlobals "is_tree" = some (some (.ref f36)))
    (l36 : K.lookup f36 = some ⟨oc36, od36, .func (PySem.W.fnOf "is_tree" "is_tree" (defArgs sIsTree) (defBody sIsTree) (defScope sIsTree) .none kV36 dc36 pm36 an36 cd36 ct36), sl36⟩)
    (c36 : PySem.W.codeIn K cd36 "is_tree" = true) (k36 : PySem.W.keepIn K (.ref f36) = true)
    {f37 : Addr} {od37 an37 : Option Addr} {sl37 : Array (Option Value)} {oc37 kV37 dc37 pm37 cd37 ct37 : Value}
    (a37 : PySem.W.nsIn K mainGlobals "show_tree" = some (some (.ref f37)))
    (l37 : K.lookup f37 = some ⟨oc37, od37, .func (PySem.W.fnOf "show_tree" "show_tree" (defArgs s_show_tree) (defBody s_show_tree) (defScope s_show_tree) .none kV37 dc37 pm37 an37 cd37 ct37), sl37⟩)
    (c37 : PySem.W.codeIn K cd37 "show_tree" = true) (k37 : PySem.W.keepIn K (.ref f37) = true)
    {f38 : Addr} {od38 an38 : Option Addr} {sl38 : Array (Option Value)} {oc38 kV38 dc38 pm38 cd38 ct38 : Value}
    (a38 : PySem.W.nsIn K mainGlobals "read_tree" = some (some (.ref f38)))
    (l38 : K.lookup f38 = some ⟨oc38, od38, .func (PySem.W.fnOf "read_tree" "read_tree" (defArgs s_read_tree) (defBody s_read_tree) (defScope s_read_tree) .none kV38 dc38 pm38 an38 cd38 ct38), sl38⟩)
    (c38 : PySem.W.codeIn K cd38 "read_tree" = true) (k38 : PySem.W.keepIn K (.ref f38) = true)
    {f39 : Addr} {od39 an39 : Option Addr} {sl39 : Array (Option Value)} {oc39 kV39 dc39 pm39 cd39 ct39 : Value}
    (a39 : PySem.W.nsIn K mainGlobals "repeated" = some (some (.ref f39)))
    (l39 : K.lookup f39 = some ⟨oc39, od39, .func (PySem.W.fnOf "repeated" "repeated" (defArgs s_repeated) (defBody s_repeated) (defScope s_repeated) .none kV39 dc39 pm39 an39 cd39 ct39), sl39⟩)
    (c39 : PySem.W.codeIn K cd39 "repeated" = true) (k39 : PySem.W.keepIn K (.ref f39) = true)
    {f40 : Addr} {od40 an40 : Option Addr} {sl40 : Array (Option Value)} {oc40 kV40 dc40 pm40 cd40 ct40 : Value}
    (a40 : PySem.W.nsIn K mainGlobals "_with_runs" = some (some (.ref f40)))
    (l40 : K.lookup f40 = some ⟨oc40, od40, .func (PySem.W.fnOf "_with_runs" "_with_runs" (defArgs s__with_runs) (defBody s__with_runs) (defScope s__with_runs) .none kV40 dc40 pm40 an40 cd40 ct40), sl40⟩)
    (c40 : PySem.W.codeIn K cd40 "_with_runs" = true) (k40 : PySem.W.keepIn K (.ref f40) = true)
    {f41 : Addr} {od41 an41 : Option Addr} {sl41 : Array (Option Value)} {oc41 kV41 dc41 pm41 cd41 ct41 : Value}
    (a41 : PySem.W.nsIn K mainGlobals "_cut" = some (some (.ref f41)))
    (l41 : K.lookup f41 = some ⟨oc41, od41, .func (PySem.W.fnOf "_cut" "_cut" (defArgs s__cut) (defBody s__cut) (defScope s__cut) .none kV41 dc41 pm41 an41 cd41 ct41), sl41⟩)
    (c41 : PySem.W.codeIn K cd41 "_cut" = true) (k41 : PySem.W.keepIn K (.ref f41) = true)
    {f42 : Addr} {od42 an42 : Option Addr} {sl42 : Array (Option Value)} {oc42 kV42 dc42 pm42 cd42 ct42 : Value}
    (a42 : PySem.W.nsIn K mainGlobals "_law_pot" = some (some (.ref f42)))
    (l42 : K.lookup f42 = some ⟨oc42, od42, .func (PySem.W.fnOf "_law_pot" "_law_pot" (defArgs sPot) (defBody sPot) (defScope sPot) .none kV42 dc42 pm42 an42 cd42 ct42), sl42⟩)
    (c42 : PySem.W.codeIn K cd42 "_law_pot" = true) (k42 : PySem.W.keepIn K (.ref f42) = true)
    {f43 : Addr} {od43 an43 : Option Addr} {sl43 : Array (Option Value)} {oc43 kV43 dc43 pm43 cd43 ct43 : Value}
    (a43 : PySem.W.nsIn K mainGlobals "_law_take" = some (some (.ref f43)))
    (l43 : K.lookup f43 = some ⟨oc43, od43, .func (PySem.W.fnOf "_law_take" "_law_take" (defArgs sTake) (defBody sTake) (defScope sTake) .none kV43 dc43 pm43 an43 cd43 ct43), sl43⟩)
    (c43 : PySem.W.codeIn K cd43 "_law_take" = true) (k43 : PySem.W.keepIn K (.ref f43) = true)
    {f44 : Addr} {od44 an44 : Option Addr} {sl44 : Array (Option Value)} {oc44 kV44 dc44 pm44 cd44 ct44 : Value}
    (a44 : PySem.W.nsIn K mainGlobals "_law_of" = some (some (.ref f44)))
    (l44 : K.lookup f44 = some ⟨oc44, od44, .func (PySem.W.fnOf "_law_of" "_law_of" (defArgs sOf) (defBody sOf) (defScope sOf) .none kV44 dc44 pm44 an44 cd44 ct44), sl44⟩)
    (c44 : PySem.W.codeIn K cd44 "_law_of" = true) (k44 : PySem.W.keepIn K (.ref f44) = true)
    {f45 : Addr} {od45 an45 : Option Addr} {sl45 : Array (Option Value)} {oc45 kV45 dc45 pm45 cd45 ct45 : Value}
    (a45 : PySem.W.nsIn K mainGlobals "_law_sequence" = some (some (.ref f45)))
    (l45 : K.lookup f45 = some ⟨oc45, od45, .func (PySem.W.fnOf "_law_sequence" "_law_sequence" (defArgs sSeq) (defBody sSeq) (defScope sSeq) .none kV45 dc45 pm45 an45 cd45 ct45), sl45⟩)
    (c45 : PySem.W.codeIn K cd45 "_law_sequence" = true) (k45 : PySem.W.keepIn K (.ref f45) = true)
    {f46 : Addr} {od46 an46 : Option Addr} {sl46 : Array (Option Value)} {oc46 kV46 dc46 pm46 cd46 ct46 : Value}
    (a46 : PySem.W.nsIn K mainGlobals "_law_runs" = some (some (.ref f46)))
    (l46 : K.lookup f46 = some ⟨oc46, od46, .func (PySem.W.fnOf "_law_runs" "_law_runs" (defArgs sLRuns) (defBody sLRuns) (defScope sLRuns) .none kV46 dc46 pm46 an46 cd46 ct46), sl46⟩)
    (c46 : PySem.W.codeIn K cd46 "_law_runs" = true) (k46 : PySem.W.keepIn K (.ref f46) = true)
    {f47 : Addr} {od47 an47 : Option Addr} {sl47 : Array (Option Value)} {oc47 kV47 dc47 pm47 cd47 ct47 : Value}
    (a47 : PySem.W.nsIn K mainGlobals "_law_wide" = some (some (.ref f47)))
    (l47 : K.lookup f47 = some ⟨oc47, od47, .func (PySem.W.fnOf "_law_wide" "_law_wide" (defArgs sWide) (defBody sWide) (defScope sWide) .none kV47 dc47 pm47 an47 cd47 ct47), sl47⟩)
    (c47 : PySem.W.codeIn K cd47 "_law_wide" = true) (k47 : PySem.W.keepIn K (.ref f47) = true)
    {f48 : Addr} {od48 an48 : Option Addr} {sl48 : Array (Option Value)} {oc48 kV48 dc48 pm48 cd48 ct48 : Value}
    (a48 : PySem.W.nsIn K mainGlobals "_law_text" = some (some (.ref f48)))
    (l48 : K.lookup f48 = some ⟨oc48, od48, .func (PySem.W.fnOf "_law_text" "_law_text" (defArgs sLText) (defBody sLText) (defScope sLText) .none kV48 dc48 pm48 an48 cd48 ct48), sl48⟩)
    (c48 : PySem.W.codeIn K cd48 "_law_text" = true) (k48 : PySem.W.keepIn K (.ref f48) = true)
    {f49 : Addr} {od49 an49 : Option Addr} {sl49 : Array (Option Value)} {oc49 kV49 dc49 pm49 cd49 ct49 : Value}
    (a49 : PySem.W.nsIn K mainGlobals "_law_first" = some (some (.ref f49)))
    (l49 : K.lookup f49 = some ⟨oc49, od49, .func (PySem.W.fnOf "_law_first" "_law_first" (defArgs sLFirst) (defBody sLFirst) (defScope sLFirst) .none kV49 dc49 pm49 an49 cd49 ct49), sl49⟩)
    (c49 : PySem.W.codeIn K cd49 "_law_first" = true) (k49 : PySem.W.keepIn K (.ref f49) = true)
    {f50 : Addr} {od50 an50 : Option Addr} {sl50 : Array (Option Value)} {oc50 kV50 dc50 pm50 cd50 ct50 : Value}
    (a50 : PySem.W.nsIn K mainGlobals "_law_round" = some (some (.ref f50)))
    (l50 : K.lookup f50 = some ⟨oc50, od50, .func (PySem.W.fnOf "_law_round" "_law_round" (defArgs sRound) (defBody sRound) (defScope sRound) .none kV50 dc50 pm50 an50 cd50 ct50), sl50⟩)
    (c50 : PySem.W.codeIn K cd50 "_law_round" = true) (k50 : PySem.W.keepIn K (.ref f50) = true)
    {f51 : Addr} {od51 an51 : Option Addr} {sl51 : Array (Option Value)} {oc51 kV51 dc51 pm51 cd51 ct51 : Value}
    (a51 : PySem.W.nsIn K mainGlobals "_law_marks" = some (some (.ref f51)))
    (l51 : K.lookup f51 = some ⟨oc51, od51, .func (PySem.W.fnOf "_law_marks" "_law_marks" (defArgs sLMarks) (defBody sLMarks) (defScope sLMarks) .none kV51 dc51 pm51 an51 cd51 ct51), sl51⟩)
    (c51 : PySem.W.codeIn K cd51 "_law_marks" = true) (k51 : PySem.W.keepIn K (.ref f51) = true)
    {f52 : Addr} {od52 an52 : Option Addr} {sl52 : Array (Option Value)} {oc52 kV52 dc52 pm52 cd52 ct52 : Value}
    (a52 : PySem.W.nsIn K mainGlobals "_law_pieces" = some (some (.ref f52)))
    (l52 : K.lookup f52 = some ⟨oc52, od52, .func (PySem.W.fnOf "_law_pieces" "_law_pieces" (defArgs sLPieces) (defBody sLPieces) (defScope sLPieces) .none kV52 dc52 pm52 an52 cd52 ct52), sl52⟩)
    (c52 : PySem.W.codeIn K cd52 "_law_pieces" = true) (k52 : PySem.W.keepIn K (.ref f52) = true)
    {f53 : Addr} {od53 an53 : Option Addr} {sl53 : Array (Option Value)} {oc53 kV53 dc53 pm53 cd53 ct53 : Value}
    (a53 : PySem.W.nsIn K mainGlobals "_law_joined" = some (some (.ref f53)))
    (l53 : K.lookup f53 = some ⟨oc53, od53, .func (PySem.W.fnOf "_law_joined" "_law_joined" (defArgs sJoined) (defBody sJoined) (defScope sJoined) .none kV53 dc53 pm53 an53 cd53 ct53), sl53⟩)
    (c53 : PySem.W.codeIn K cd53 "_law_joined" = true) (k53 : PySem.W.keepIn K (.ref f53) = true)
    {f54 : Addr} {od54 an54 : Option Addr} {sl54 : Array (Option Value)} {oc54 kV54 dc54 pm54 cd54 ct54 : Value}
    (a54 : PySem.W.nsIn K mainGlobals "_law_rows" = some (some (.ref f54)))
    (l54 : K.lookup f54 = some ⟨oc54, od54, .func (PySem.W.fnOf "_law_rows" "_law_rows" (defArgs sLRows) (defBody sLRows) (defScope sLRows) .none kV54 dc54 pm54 an54 cd54 ct54), sl54⟩)
    (c54 : PySem.W.codeIn K cd54 "_law_rows" = true) (k54 : PySem.W.keepIn K (.ref f54) = true)
    {f55 : Addr} {od55 an55 : Option Addr} {sl55 : Array (Option Value)} {oc55 kV55 dc55 pm55 cd55 ct55 : Value}
    (a55 : PySem.W.nsIn K mainGlobals "_law_tree" = some (some (.ref f55)))
    (l55 : K.lookup f55 = some ⟨oc55, od55, .func (PySem.W.fnOf "_law_tree" "_law_tree" (defArgs sLTree) (defBody sLTree) (defScope sLTree) .none kV55 dc55 pm55 an55 cd55 ct55), sl55⟩)
    (c55 : PySem.W.codeIn K cd55 "_law_tree" = true) (k55 : PySem.W.keepIn K (.ref f55) = true)
    {f56 : Addr} {od56 an56 : Option Addr} {sl56 : Array (Option Value)} {oc56 kV56 dc56 pm56 cd56 ct56 : Value}
    (a56 : PySem.W.nsIn K mainGlobals "_law_right" = some (some (.ref f56)))
    (l56 : K.lookup f56 = some ⟨oc56, od56, .func (PySem.W.fnOf "_law_right" "_law_right" (defArgs sRight) (defBody sRight) (defScope sRight) .none kV56 dc56 pm56 an56 cd56 ct56), sl56⟩)
    (c56 : PySem.W.codeIn K cd56 "_law_right" = true) (k56 : PySem.W.keepIn K (.ref f56) = true)
    {f57 : Addr} {od57 an57 : Option Addr} {sl57 : Array (Option Value)} {oc57 kV57 dc57 pm57 cd57 ct57 : Value}
    (a57 : PySem.W.nsIn K mainGlobals "law" = some (some (.ref f57)))
    (l57 : K.lookup f57 = some ⟨oc57, od57, .func (PySem.W.fnOf "law" "law" (defArgs sLaw) (defBody sLaw) (defScope sLaw) .none kV57 dc57 pm57 an57 cd57 ct57), sl57⟩)
    (c57 : PySem.W.codeIn K cd57 "law" = true) (k57 : PySem.W.keepIn K (.ref f57) = true)
    (z0 : PySem.W.nsIn K mainGlobals "ValueError" = some none)
    (z1 : PySem.W.nsIn K mainGlobals "abs" = some none)
    (z2 : PySem.W.nsIn K mainGlobals "all" = some none)
    (z3 : PySem.W.nsIn K mainGlobals "bool" = some none)
    (z4 : PySem.W.nsIn K mainGlobals "enumerate" = some none)
    (z5 : PySem.W.nsIn K mainGlobals "int" = some none)
    (z6 : PySem.W.nsIn K mainGlobals "isinstance" = some none)
    (z7 : PySem.W.nsIn K mainGlobals "len" = some none)
    (z8 : PySem.W.nsIn K mainGlobals "list" = some none)
    (z9 : PySem.W.nsIn K mainGlobals "max" = some none)
    (z10 : PySem.W.nsIn K mainGlobals "min" = some none)
    (z11 : PySem.W.nsIn K mainGlobals "range" = some none)
    (z12 : PySem.W.nsIn K mainGlobals "repr" = some none)
    (z13 : PySem.W.nsIn K mainGlobals "str" = some none)
    (z14 : PySem.W.nsIn K mainGlobals "sum" = some none)
    (z15 : PySem.W.nsIn K mainGlobals "tuple" = some none)
    (z16 : PySem.W.nsIn K mainGlobals "zip" = some none)
    {tDIGITS : Tok} (y0 : PySem.W.nsIn K mainGlobals "DIGITS" = some (some (.str "0123456789" tDIGITS)))
    {tMOST_DIGITS : Tok} (y1 : PySem.W.nsIn K mainGlobals "MOST_DIGITS" = some (some (.int 61 tMOST_DIGITS)))
    {tSIGNS : Tok} (y2 : PySem.W.nsIn K mainGlobals "SIGNS" = some (some (.str "0123456789 ()^" tSIGNS)))
    {tENDED : Tok} (y3 : PySem.W.nsIn K mainGlobals "ENDED" = some (some (.int 14 tENDED)))
    {tMOST_RUNS : Tok} (y4 : PySem.W.nsIn K mainGlobals "MOST_RUNS" = some (some (.int 300 tMOST_RUNS)))
    {tEMPTY : Tok} (y5 : PySem.W.nsIn K mainGlobals "EMPTY" = some (some (.str "-" tEMPTY)))
    {tLEFT_OF_PEAK : Tok} (y6 : PySem.W.nsIn K mainGlobals "LEFT_OF_PEAK" = some (some (.int 6 tLEFT_OF_PEAK)))
    {tSHOWN : Tok} (y7 : PySem.W.nsIn K mainGlobals "SHOWN" = some (some (.int 6 tSHOWN)))
    : ∃ fd : FuncData, (∀ (s : Shared) (v : Value), BindsTo s fd ⟨[v], []⟩ [("script", v)]) ∧ ∀ base : Heap, K.In base → base.Ns mainGlobals mg → FnG l.prog w K mg base CX0 44 fa fd ["script"] (spLaw K) := by
  have e := hfa.symm.trans (PySem.W.mg_of X G a57)
  cases e
  have F0 := fun_mk (st := sWhole) l0 c0 k0
  have b0 := F0.binds (ps := ["value"]) fun _ _ _ _ _ _ us hl => match us, hl with | [_], _ => rfl
  have F1 := fun_mk (st := sElement) l1 c1 k1
  have b1 := F1.binds (ps := ["value"]) fun _ _ _ _ _ _ us hl => match us, hl with | [_], _ => rfl
  have F2 := fun_mk (st := sCount) l2 c2 k2
  have b2 := F2.binds (ps := ["value", "least"]) fun _ _ _ _ _ _ us hl => match us, hl with | [_, _], _ => rfl
  have F3 := fun_mk (st := sIsRun) l3 c3 k3
  have b3 := F3.binds (ps := ["value"]) fun _ _ _ _ _ _ us hl => match us, hl with | [_], _ => rfl
  have F4 := fun_mk (st := sIsBlk) l4 c4 k4
  have b4 := F4.binds (ps := ["value"]) fun _ _ _ _ _ _ us hl => match us, hl with | [_], _ => rfl
  have F5 := fun_mk (st := sBase) l5 c5 k5
  have b5 := F5.binds (ps := ["node"]) fun _ _ _ _ _ _ us hl => match us, hl with | [_], _ => rfl
  have F6 := fun_mk (st := sRunOf) l6 c6 k6
  have b6 := F6.binds (ps := ["node", "count"]) fun _ _ _ _ _ _ us hl => match us, hl with | [_, _], _ => rfl
  have F7 := fun_mk (st := sIsNode) l7 c7 k7
  have b7 := F7.binds (ps := ["value"]) fun _ _ _ _ _ _ us hl => match us, hl with | [_], _ => rfl
  have F8 := fun_mk (st := sParts) l8 c8 k8
  have b8 := F8.binds (ps := ["values"]) fun _ _ _ _ _ _ us hl => match us, hl with | [_], _ => rfl
  have F9 := fun_mk (st := sFit) l9 c9 k9
  have b9 := F9.binds (ps := ["nodes"]) fun _ _ _ _ _ _ us hl => match us, hl with | [_], _ => rfl
  have F10 := fun_mk (st := sLevel) l10 c10 k10
  have b10 := F10.binds (ps := ["node"]) fun _ _ _ _ _ _ us hl => match us, hl with | [_], _ => rfl
  have F11 := fun_mk (st := sText) l11 c11 k11
  have b11 := F11.binds (ps := ["node"]) fun _ _ _ _ _ _ us hl => match us, hl with | [_], _ => rfl
  have F12 := fun_mk (st := s_node_with) l12 c12 k12
  have b12 := F12.binds (ps := ["text"]) fun _ _ _ _ _ _ us hl => match us, hl with | [_], _ => rfl
  have F13 := fun_mk (st := s__closed) l13 c13 k13
  have b13 := F13.binds (ps := ["parts"]) fun _ _ _ _ _ _ us hl => match us, hl with | [_], _ => rfl
  have F14 := fun_mk (st := s__read_element) l14 c14 k14
  have b14 := F14.binds (ps := ["text", "at"]) fun _ _ _ _ _ _ us hl => match us, hl with | [_, _], _ => rfl
  have F15 := fun_mk (st := s__read_count) l15 c15 k15
  have b15 := F15.binds (ps := ["node", "text", "at"]) fun _ _ _ _ _ _ us hl => match us, hl with | [_, _, _], _ => rfl
  have F16 := fun_mk (st := s__digits_end) l16 c16 k16
  have b16 := F16.binds (ps := ["text", "at"]) fun _ _ _ _ _ _ us hl => match us, hl with | [_, _], _ => rfl
  have F17 := fun_mk (st := s_whole_with) l17 c17 k17
  have b17 := F17.binds (ps := ["text", "most"]) fun _ _ _ _ _ _ us hl => match us, hl with | [_, _], _ => rfl
  have F18 := fun_mk (st := sFirst) l18 c18 k18
  have b18 := F18.binds (ps := ["row"]) fun _ _ _ _ _ _ us hl => match us, hl with | [_], _ => rfl
  have F19 := fun_mk (st := sFM) l19 c19 k19
  have b19 := F19.binds (ps := ["texts", "place"]) fun _ _ _ _ _ _ us hl => match us, hl with | [_, _], _ => rfl
  have F20 := fun_mk (st := sFU) l20 c20 k20
  have b20 := F20.binds (ps := ["one", "other"]) fun _ _ _ _ _ _ us hl => match us, hl with | [_, _], _ => rfl
  have F21 := fun_mk (st := sCodeAt) l21 c21 k21
  have b21 := F21.binds (ps := ["text", "at"]) fun _ _ _ _ _ _ us hl => match us, hl with | [_, _], _ => rfl
  have F22 := fun_mk (st := sNext) l22 c22 k22
  have b22 := F22.binds (ps := ["some"]) fun _ _ _ _ _ _ us hl => match us, hl with | [_], _ => rfl
  have F23 := fun_mk (st := sNm) l23 c23 k23
  have b23 := F23.binds (ps := ["some", "place"]) fun _ _ _ _ _ _ us hl => match us, hl with | [_, _], _ => rfl
  have F24 := fun_mk (st := sMarks) l24 c24 k24
  have b24 := F24.binds (ps := ["row"]) fun _ _ _ _ _ _ us hl => match us, hl with | [_], _ => rfl
  have F25 := fun_mk (st := sPeaks) l25 c25 k25
  have b25 := F25.binds (ps := ["row"]) fun _ _ _ _ _ _ us hl => match us, hl with | [_], _ => rfl
  have F26 := fun_mk (st := sCuts) l26 c26 k26
  have b26 := F26.binds (ps := ["row"]) fun _ _ _ _ _ _ us hl => match us, hl with | [_], _ => rfl
  have F27 := fun_mk (st := sBlocks) l27 c27 k27
  have b27 := F27.binds (ps := ["row"]) fun _ _ _ _ _ _ us hl => match us, hl with | [_], _ => rfl
  have F28 := fun_mk (st := sMade) l28 c28 k28
  have b28 := F28.binds (ps := ["nodes"]) fun _ _ _ _ _ _ us hl => match us, hl with | [_], _ => rfl
  have F29 := fun_mk (st := sIsRuns) l29 c29 k29
  have b29 := F29.binds (ps := ["value"]) fun _ _ _ _ _ _ us hl => match us, hl with | [_], _ => rfl
  have F30 := fun_mk (st := sIsPair) l30 c30 k30
  have b30 := F30.binds (ps := ["value"]) fun _ _ _ _ _ _ us hl => match us, hl with | [_], _ => rfl
  have F31 := fun_mk (st := sRows) l31 c31 k31
  have b31 := F31.binds (ps := ["runs"]) fun _ _ _ _ _ _ us hl => match us, hl with | [_], _ => rfl
  have F32 := fun_mk (st := sTree) l32 c32 k32
  have b32 := F32.binds (ps := ["runs"]) fun _ _ _ _ _ _ us hl => match us, hl with | [_], _ => rfl
  have F33 := fun_mk (st := s_melted) l33 c33 k33
  have b33 := F33.binds (ps := ["pieces"]) fun _ _ _ _ _ _ us hl => match us, hl with | [_], _ => rfl
  have F34 := fun_mk (st := sCnt) l34 c34 k34
  have b34 := F34.binds (ps := ["tree"]) fun _ _ _ _ _ _ us hl => match us, hl with | [_], _ => rfl
  have F35 := fun_mk (st := sPairs) l35 c35 k35
  have b35 := F35.binds (ps := ["tree"]) fun _ _ _ _ _ _ us hl => match us, hl with | [_], _ => rfl
  have F36 := fun_mk (st := sIsTree) l36 c36 k36
  have b36 := F36.binds (ps := ["value"]) fun _ _ _ _ _ _ us hl => match us, hl with | [_], _ => rfl
  have F37 := fun_mk (st := s_show_tree) l37 c37 k37
  have b37 := F37.binds (ps := ["tree"]) fun _ _ _ _ _ _ us hl => match us, hl with | [_], _ => rfl
  have F38 := fun_mk (st := s_read_tree) l38 c38 k38
  have b38 := F38.binds (ps := ["text"]) fun _ _ _ _ _ _ us hl => match us, hl with | [_], _ => rfl
  have F39 := fun_mk (st := s_repeated) l39 c39 k39
  have b39 := F39.binds (ps := ["runs", "times"]) fun _ _ _ _ _ _ us hl => match us, hl with | [_, _], _ => rfl
  have F40 := fun_mk (st := s__with_runs) l40 c40 k40
  have b40 := F40.binds (ps := ["head", "period", "times", "tail"]) fun _ _ _ _ _ _ us hl => match us, hl with | [_, _, _, _], _ => rfl
  have F41 := fun_mk (st := s__cut) l41 c41 k41
  have b41 := F41.binds (ps := ["head", "period", "times", "tail"]) fun _ _ _ _ _ _ us hl => match us, hl with | [_, _, _, _], _ => rfl
  have F42 := fun_mk (st := sPot) l42 c42 k42
  have b42 := F42.binds (ps := ["script", "k"]) fun _ _ _ _ _ _ us hl => match us, hl with | [_, _], _ => rfl
  have F43 := fun_mk (st := sTake) l43 c43 k43
  have b43 := F43.binds (ps := ["pot", "bound"]) fun _ _ _ _ _ _ us hl => match us, hl with | [_, _], _ => rfl
  have F44 := fun_mk (st := sOf) l44 c44 k44
  have b44 := F44.binds (ps := ["pot", "some"]) fun _ _ _ _ _ _ us hl => match us, hl with | [_, _], _ => rfl
  have F45 := fun_mk (st := sSeq) l45 c45 k45
  have b45 := F45.binds (ps := ["pot", "most"]) fun _ _ _ _ _ _ us hl => match us, hl with | [_, _], _ => rfl
  have F46 := fun_mk (st := sLRuns) l46 c46 k46
  have b46 := F46.binds (ps := ["some"]) fun _ _ _ _ _ _ us hl => match us, hl with | [_], _ => rfl
  have F47 := fun_mk (st := sWide) l47 c47 k47
  have b47 := F47.binds (ps := ["pot", "most"]) fun _ _ _ _ _ _ us hl => match us, hl with | [_, _], _ => rfl
  have F48 := fun_mk (st := sLText) l48 c48 k48
  have b48 := F48.binds (ps := ["node"]) fun _ _ _ _ _ _ us hl => match us, hl with | [_], _ => rfl
  have F49 := fun_mk (st := sLFirst) l49 c49 k49
  have b49 := F49.binds (ps := ["row"]) fun _ _ _ _ _ _ us hl => match us, hl with | [_], _ => rfl
  have F50 := fun_mk (st := sRound) l50 c50 k50
  have b50 := F50.binds (ps := ["some"]) fun _ _ _ _ _ _ us hl => match us, hl with | [_], _ => rfl
  have F51 := fun_mk (st := sLMarks) l51 c51 k51
  have b51 := F51.binds (ps := ["row"]) fun _ _ _ _ _ _ us hl => match us, hl with | [_], _ => rfl
  have F52 := fun_mk (st := sLPieces) l52 c52 k52
  have b52 := F52.binds (ps := ["row"]) fun _ _ _ _ _ _ us hl => match us, hl with | [_], _ => rfl
  have F53 := fun_mk (st := sJoined) l53 c53 k53
  have b53 := F53.binds (ps := ["nodes"]) fun _ _ _ _ _ _ us hl => match us, hl with | [_], _ => rfl
  have F54 := fun_mk (st := sLRows) l54 c54 k54
  have b54 := F54.binds (ps := ["given"]) fun _ _ _ _ _ _ us hl => match us, hl with | [_], _ => rfl
  have F55 := fun_mk (st := sLTree) l55 c55 k55
  have b55 := F55.binds (ps := ["given"]) fun _ _ _ _ _ _ us hl => match us, hl with | [_], _ => rfl
  have F56 := fun_mk (st := sRight) l56 c56 k56
  have b56 := F56.binds (ps := ["given"]) fun _ _ _ _ _ _ us hl => match us, hl with | [_], _ => rfl
  have F57 := fun_mk (st := sLaw) l57 c57 k57
  have Y : Facts K mg :=
    { fis_whole := F0, gis_whole := PySem.W.mg_of X G a0, bis_whole := b0, fis_element := F1, gis_element := PySem.W.mg_of X G a1, bis_element := b1, fis_count := F2, gis_count := PySem.W.mg_of X G a2, bis_count := b2, fis_run := F3, gis_run := PySem.W.mg_of X G a3, bis_run := b3, fis_block := F4, gis_block := PySem.W.mg_of X G a4, bis_block := b4, fbase_of := F5, gbase_of := PySem.W.mg_of X G a5, bbase_of := b5, frun_of := F6, grun_of := PySem.W.mg_of X G a6, brun_of := b6, fis_node := F7, gis_node := PySem.W.mg_of X G a7, bis_node := b7, fcan_be_parts := F8, gcan_be_parts := PySem.W.mg_of X G a8, bcan_be_parts := b8, ffit_together := F9, gfit_together := PySem.W.mg_of X G a9, bfit_together := b9, flevel_of := F10, glevel_of := PySem.W.mg_of X G a10, blevel_of := b10, ftext_of := F11, gtext_of := PySem.W.mg_of X G a11, btext_of := b11, fnode_with := F12, gnode_with := PySem.W.mg_of X G a12, bnode_with := b12, fclosed := F13, gclosed := PySem.W.mg_of X G a13, bclosed := b13, fread_element := F14, gread_element := PySem.W.mg_of X G a14, bread_element := b14, fread_count := F15, gread_count := PySem.W.mg_of X G a15, bread_count := b15, fdigits_end := F16, gdigits_end := PySem.W.mg_of X G a16, bdigits_end := b16, fwhole_with := F17, gwhole_with := PySem.W.mg_of X G a17, bwhole_with := b17, ffirst_marks := F18, gfirst_marks := PySem.W.mg_of X G a18, bfirst_marks := b18, ffirst_mark := F19, gfirst_mark := PySem.W.mg_of X G a19, bfirst_mark := b19, ffirst_unlike := F20, gfirst_unlike := PySem.W.mg_of X G a20, bfirst_unlike := b20, fcode_at := F21, gcode_at := PySem.W.mg_of X G a21, bcode_at := b21, fnext_marks := F22, gnext_marks := PySem.W.mg_of X G a22, bnext_marks := b22, fnext_mark := F23, gnext_mark := PySem.W.mg_of X G a23, bnext_mark := b23, fmarks := F24, gmarks := PySem.W.mg_of X G a24, bmarks := b24, fpeaks := F25, gpeaks := PySem.W.mg_of X G a25, bpeaks := b25, fcuts := F26, gcuts := PySem.W.mg_of X G a26, bcuts := b26, fblocks := F27, gblocks := PySem.W.mg_of X G a27, bblocks := b27, fmade_runs := F28, gmade_runs := PySem.W.mg_of X G a28, bmade_runs := b28, fis_runs := F29, gis_runs := PySem.W.mg_of X G a29, bis_runs := b29, fis_pair := F30, gis_pair := PySem.W.mg_of X G a30, bis_pair := b30, frows_of := F31, grows_of := PySem.W.mg_of X G a31, brows_of := b31, ftree_of := F32, gtree_of := PySem.W.mg_of X G a32, btree_of := b32, fmelted := F33, gmelted := PySem.W.mg_of X G a33, bmelted := b33, frun_count := F34, grun_count := PySem.W.mg_of X G a34, brun_count := b34, fpairs_of := F35, gpairs_of := PySem.W.mg_of X G a35, bpairs_of := b35, fis_tree := F36, gis_tree := PySem.W.mg_of X G a36, bis_tree := b36, fshow_tree := F37, gshow_tree := PySem.W.mg_of X G a37, bshow_tree := b37, fread_tree := F38, gread_tree := PySem.W.mg_of X G a38, bread_tree := b38, frepeated := F39, grepeated := PySem.W.mg_of X G a39, brepeated := b39, fwith_runs := F40, gwith_runs := PySem.W.mg_of X G a40, bwith_runs := b40, fcut := F41, gcut := PySem.W.mg_of X G a41, bcut := b41, fl_pot := F42, gl_pot := PySem.W.mg_of X G a42, bl_pot := b42, fl_take := F43, gl_take := PySem.W.mg_of X G a43, bl_take := b43, fl_of := F44, gl_of := PySem.W.mg_of X G a44, bl_of := b44, fl_sequence := F45, gl_sequence := PySem.W.mg_of X G a45, bl_sequence := b45, fl_runs := F46, gl_runs := PySem.W.mg_of X G a46, bl_runs := b46, fl_wide := F47, gl_wide := PySem.W.mg_of X G a47, bl_wide := b47, fl_text := F48, gl_text := PySem.W.mg_of X G a48, bl_text := b48, fl_first := F49, gl_first := PySem.W.mg_of X G a49, bl_first := b49, fl_round := F50, gl_round := PySem.W.mg_of X G a50, bl_round := b50, fl_marks := F51, gl_marks := PySem.W.mg_of X G a51, bl_marks := b51, fl_pieces := F52, gl_pieces := PySem.W.mg_of X G a52, bl_pieces := b52, fl_joined := F53, gl_joined := PySem.W.mg_of X G a53, bl_joined := b53, fl_rows := F54, gl_rows := PySem.W.mg_of X G a54, bl_rows := b54, fl_tree := F55, gl_tree := PySem.W.mg_of X G a55, bl_tree := b55, fl_right := F56, gl_right := PySem.W.mg_of X G a56, bl_right := b56, ValueError := PySem.W.mg_none_of X G z0, abs := PySem.W.mg_none_of X G z1, all := PySem.W.mg_none_of X G z2, bool := PySem.W.mg_none_of X G z3, enumerate := PySem.W.mg_none_of X G z4, int := PySem.W.mg_none_of X G z5, isinstance := PySem.W.mg_none_of X G z6, len := PySem.W.mg_none_of X G z7, list := PySem.W.mg_none_of X G z8, max := PySem.W.mg_none_of X G z9, min := PySem.W.mg_none_of X G z10, range := PySem.W.mg_none_of X G z11, repr := PySem.W.mg_none_of X G z12, str := PySem.W.mg_none_of X G z13, sum := PySem.W.mg_none_of X G z14, tuple := PySem.W.mg_none_of X G z15, zip := PySem.W.mg_none_of X G z16, DIGITS := PySem.W.mg_of X G y0, MOST_DIGITS := PySem.W.mg_of X G y1, SIGNS := PySem.W.mg_of X G y2, ENDED := PySem.W.mg_of X G y3, MOST_RUNS := PySem.W.mg_of X G y4, EMPTY := PySem.W.mg_of X G y5, LEFT_OF_PEAK := PySem.W.mg_of X G y6, SHOWN := PySem.W.mg_of X G y7, .. }
  exact ⟨_, fun s v => .of_eq rfl, fun base _ _ => ok_law F57 Y⟩
end C62
open PySem PySem.W PyProof.Rows
set_option maxHeartbeats 0 in
theorem PySem.Challenge.cw_localblocks_k62_texts_of_trees_holds : PySem.Challenge.rw_localblocks_k62_texts_of_trees.Holds := by
  w_on; o_law; k_head; (case hw => w_witness2)
  k_fill
  refine Loc.walkG (l := PySem.Challenge.rw_localblocks_k62_texts_of_trees) (n := 63) (k := 44) (x := "script") (sp := fun K => C62.spLaw K) rfl (by decide) rfl ⟨rfl, by decide, by decide⟩ (fun w h Y => PySem.W.kIn_of Y) ?F (fun K _ a ns hl hS => ⟨a, ns, rfl, hS, hl, fun _ => rfl⟩)
  case F =>
    intro w mg fa h KX G hmg
    refine' C62.all_mk KX G hmg ?a0 ?l0 ?c0 ?k0 ?a1 ?l1 ?c1 ?k1 ?a2 ?l2 ?c2 ?k2 ?a3 ?l3 ?c3 ?k3 ?a4 ?l4 ?c4 ?k4 ?a5 ?l5 ?c5 ?k5 ?a6 ?l6 ?c6 ?k6 ?a7 ?l7 ?c7 ?k7 ?a8 ?l8 ?c8 ?k8 ?a9 ?l9 ?c9 ?k9 ?a10 ?l10 ?c10 ?k10 ?a11 ?l11 ?c11 ?k11 ?a12 ?l12 ?c12 ?k12 ?a13 ?l13 ?c13 ?k13 ?a14 ?l14 ?c14 ?k14 ?a15 ?l15 ?c15 ?k15 ?a16 ?l16 ?c16 ?k16 ?a17 ?l17 ?c17 ?k17 ?a18 ?l18 ?c18 ?k18 ?a19 ?l19 ?c19 ?k19 ?a20 ?l20 ?c20 ?k20 ?a21 ?l21 ?c21 ?k21 ?a22 ?l22 ?c22 ?k22 ?a23 ?l23 ?c23 ?k23 ?a24 ?l24 ?c24 ?k24 ?a25 ?l25 ?c25 ?k25 ?a26 ?l26 ?c26 ?k26 ?a27 ?l27 ?c27 ?k27 ?a28 ?l28 ?c28 ?k28 ?a29 ?l29 ?c29 ?k29 ?a30 ?l30 ?c30 ?k30 ?a31 ?l31 ?c31 ?k31 ?a32 ?l32 ?c32 ?k32 ?a33 ?l33 ?c33 ?k33 ?a34 ?l34 ?c34 ?k34 ?a35 ?l35 ?c35 ?k35 ?a36 ?l36 ?c36 ?k36 ?a37 ?l37 ?c37 ?k37 ?a38 ?l38 ?c38 ?k38 ?a39 ?l39 ?c39 ?k39 ?a40 ?l40 ?c40 ?k40 ?a41 ?l41 ?c41 ?k41 ?a42 ?l42 ?c42 ?k42 ?a43 ?l43 ?c43 ?k43 ?a44 ?l44 ?c44 ?k44 ?a45 ?l45 ?c45 ?k45 ?a46 ?l46 ?c46 ?k46 ?a47 ?l47 ?c47 ?k47 ?a48 ?l48 ?c48 ?k48 ?a49 ?l49 ?c49 ?k49 ?a50 ?l50 ?c50 ?k50 ?a51 ?l51 ?c51 ?k51 ?a52 ?l52 ?c52 ?k52 ?a53 ?l53 ?c53 ?k53 ?a54 ?l54 ?c54 ?k54 ?a55 ?l55 ?c55 ?k55 ?a56 ?l56 ?c56 ?k56 ?a57 ?l57 ?c57 ?k57 ?z0 ?z1 ?z2 ?z3 ?z4 ?z5 ?z6 ?z7 ?z8 ?z9 ?z10 ?z11 ?z12 ?z13 ?z14 ?z15 ?z16 ?y0 ?y1 ?y2 ?y3 ?y4 ?y5 ?y6 ?y7
    (case a0 => k_is)
    (case l0 => k_is)
    (case c0 => k_is)
    (case k0 => k_is)
    (case a1 => k_is)
    (case l1 => k_is)
    (case c1 => k_is)
    (case k1 => k_is)
    (case a2 => k_is)
    (case l2 => k_is)
    (case c2 => k_is)
    (case k2 => k_is)
    (case a3 => k_is)
    (case l3 => k_is)
    (case c3 => k_is)
    (case k3 => k_is)
    (case a4 => k_is)
    (case l4 => k_is)
    (case c4 => k_is)
    (case k4 => k_is)
    (case a5 => k_is)
    (case l5 => k_is)
    (case c5 => k_is)
    (case k5 => k_is)
    (case a6 => k_is)
    (case l6 => k_is)
    (case c6 => k_is)
    (case k6 => k_is)
    (case a7 => k_is)
    (case l7 => k_is)
    (case c7 => k_is)
    (case k7 => k_is)
    (case a8 => k_is)
    (case l8 => k_is)
    (case c8 => k_is)
    (case k8 => k_is)
    (case a9 => k_is)
    (case l9 => k_is)
    (case c9 => k_is)
    (case k9 => k_is)
    (case a10 => k_is)
    (case l10 => k_is)
    (case c10 => k_is)
    (case k10 => k_is)
    (case a11 => k_is)
    (case l11 => k_is)
    (case c11 => k_is)
    (case k11 => k_is)
    (case a12 => k_is)
    (case l12 => k_is)
    (case c12 => k_is)
    (case k12 => k_is)
    (case a13 => k_is)
    (case l13 => k_is)
    (case c13 => k_is)
    (case k13 => k_is)
    (case a14 => k_is)
    (case l14 => k_is)
    (case c14 => k_is)
    (case k14 => k_is)
    (case a15 => k_is)
    (case l15 => k_is)
    (case c15 => k_is)
    (case k15 => k_is)
    (case a16 => k_is)
    (case l16 => k_is)
    (case c16 => k_is)
    (case k16 => k_is)
    (case a17 => k_is)
    (case l17 => k_is)
    (case c17 => k_is)
    (case k17 => k_is)
    (case a18 => k_is)
    (case l18 => k_is)
    (case c18 => k_is)
    (case k18 => k_is)
    (case a19 => k_is)
    (case l19 => k_is)
    (case c19 => k_is)
    (case k19 => k_is)
    (case a20 => k_is)
    (case l20 => k_is)
    (case c20 => k_is)
    (case k20 => k_is)
    (case a21 => k_is)
    (case l21 => k_is)
    (case c21 => k_is)
    (case k21 => k_is)
    (case a22 => k_is)
    (case l22 => k_is)
    (case c22 => k_is)
    (case k22 => k_is)
    (case a23 => k_is)
    (case l23 => k_is)
    (case c23 => k_is)
    (case k23 => k_is)
    (case a24 => k_is)
    (case l24 => k_is)
    (case c24 => k_is)
    (case k24 => k_is)
    (case a25 => k_is)
    (case l25 => k_is)
    (case c25 => k_is)
    (case k25 => k_is)
    (case a26 => k_is)
    (case l26 => k_is)
    (case c26 => k_is)
    (case k26 => k_is)
    (case a27 => k_is)
    (case l27 => k_is)
    (case c27 => k_is)
    (case k27 => k_is)
    (case a28 => k_is)
    (case l28 => k_is)
    (case c28 => k_is)
    (case k28 => k_is)
    (case a29 => k_is)
    (case l29 => k_is)
    (case c29 => k_is)
    (case k29 => k_is)
    (case a30 => k_is)
    (case l30 => k_is)
    (case c30 => k_is)
    (case k30 => k_is)
    (case a31 => k_is)
    (case l31 => k_is)
    (case c31 => k_is)
    (case k31 => k_is)
    (case a32 => k_is)
    (case l32 => k_is)
    (case c32 => k_is)
    (case k32 => k_is)
    (case a33 => k_is)
    (case l33 => k_is)
    (case c33 => k_is)
    (case k33 => k_is)
    (case a34 => k_is)
    (case l34 => k_is)
    (case c34 => k_is)
    (case k34 => k_is)
    (case a35 => k_is)
    (case l35 => k_is)
    (case c35 => k_is)
    (case k35 => k_is)
    (case a36 => k_is)
    (case l36 => k_is)
    (case c36 => k_is)
    (case k36 => k_is)
    (case a37 => k_is)
    (case l37 => k_is)
    (case c37 => k_is)
    (case k37 => k_is)
    (case a38 => k_is)
    (case l38 => k_is)
    (case c38 => k_is)
    (case k38 => k_is)
    (case a39 => k_is)
    (case l39 => k_is)
    (case c39 => k_is)
    (case k39 => k_is)
    (case a40 => k_is)
    (case l40 => k_is)
    (case c40 => k_is)
    (case k40 => k_is)
    (case a41 => k_is)
    (case l41 => k_is)
    (case c41 => k_is)
    (case k41 => k_is)
    (case a42 => k_is)
    (case l42 => k_is)
    (case c42 => k_is)
    (case k42 => k_is)
    (case a43 => k_is)
    (case l43 => k_is)
    (case c43 => k_is)
    (case k43 => k_is)
    (case a44 => k_is)
    (case l44 => k_is)
    (case c44 => k_is)
    (case k44 => k_is)
    (case a45 => k_is)
    (case l45 => k_is)
    (case c45 => k_is)
    (case k45 => k_is)
    (case a46 => k_is)
    (case l46 => k_is)
    (case c46 => k_is)
    (case k46 => k_is)
    (case a47 => k_is)
    (case l47 => k_is)
    (case c47 => k_is)
    (case k47 => k_is)
    (case a48 => k_is)
    (case l48 => k_is)
    (case c48 => k_is)
    (case k48 => k_is)
    (case a49 => k_is)
    (case l49 => k_is)
    (case c49 => k_is)
    (case k49 => k_is)
    (case a50 => k_is)
    (case l50 => k_is)
    (case c50 => k_is)
    (case k50 => k_is)
    (case a51 => k_is)
    (case l51 => k_is)
    (case c51 => k_is)
    (case k51 => k_is)
    (case a52 => k_is)
    (case l52 => k_is)
    (case c52 => k_is)
    (case k52 => k_is)
    (case a53 => k_is)
    (case l53 => k_is)
    (case c53 => k_is)
    (case k53 => k_is)
    (case a54 => k_is)
    (case l54 => k_is)
    (case c54 => k_is)
    (case k54 => k_is)
    (case a55 => k_is)
    (case l55 => k_is)
    (case c55 => k_is)
    (case k55 => k_is)
    (case a56 => k_is)
    (case l56 => k_is)
    (case c56 => k_is)
    (case k56 => k_is)
    (case a57 => k_is)
    (case l57 => k_is)
    (case c57 => k_is)
    (case k57 => k_is)
    (case z0 => k_is)
    (case z1 => k_is)
    (case z2 => k_is)
    (case z3 => k_is)
    (case z4 => k_is)
    (case z5 => k_is)
    (case z6 => k_is)
    (case z7 => k_is)
    (case z8 => k_is)
    (case z9 => k_is)
    (case z10 => k_is)
    (case z11 => k_is)
    (case z12 => k_is)
    (case z13 => k_is)
    (case z14 => k_is)
    (case z15 => k_is)
    (case z16 => k_is)
    (case y0 => k_is)
    (case y1 => k_is)
    (case y2 => k_is)
    (case y3 => k_is)
    (case y4 => k_is)
    (case y5 => k_is)
    (case y6 => k_is)
    (case y7 => k_is)


