import PyProof.Rows.All
import Wide.All
import OpenK.AllK
import Wide.FinOn
import HandS.ForMost
import HandS.Base
import HandS.Call
import HandS.List
import HandS.Comp
import HandS.Ends
import HandS.Words
import PyProof.ReprRoads
import PyProof.ReprLen
import PyProof.ReprText
import HandS.Wide
import HandS.WideBits
import HandS.Style
import HandS.Zip
import HandS.Flow
import PyProof.Rows.RuleB_pow
import PyProof.FitsInt
import PyProof.Rows.StrJoinMade
import HandS.IsInst
import HandS.TupAny
import HandS.Text
import PyProof.Rows.ReprOcc
import PyProof.FitsReplace
import PyProof.StrLawsRepr
import HandS.Replace
import HandS.Conv
import HandS.Sort
import HandS.Iter
import HandS.TupMul
import KE.GoesMore
import HandS.Rev
import KE.KRevSl
import PySem.Challenge.RW_localblocks_k82_whole_rows_with_equal_en
set_option Elab.async false
set_option linter.all false
set_option maxRecDepth 100000
namespace Loc
open PySem PySem.Spec PyProof.Rows L2
/-! ### defs that are entered while no repr is under way -/
/-- as FnOk, for such an entry alone -/
structure FnG (P : Program) (w : World) (K : PySem.W.Frag) (mg : Str → Option Value) (base : Heap) (CX : CXT)
    (k : Nat) (f : Addr) (fd : FuncData) (ps : List Str) (sp : Sp) : Prop where
  cnt : ∀ {vs H Q E}, sp vs H Q E → vs.length = ps.length
  go : ∀ {A : Around} {out : List Env} {s : Shared} {H : Hp} {ar : Args} {us : List Value} {vs : List V} {Q : VK} {E : XK},
    A.guards = some [] → Room k A → Env0 P w K mg base A out s H → BindsTo s fd ar (ps.zip us) → Vals vs us → sp vs H Q E →
    codeAny (model P w) A (.call (.ref f) ar) (CR CX out P w H s Q E) s
section
variable {P : Program} {w : World} {K : PySem.W.Frag} {mg : Str → Option Value} {base : Heap} {CX : CXT} {k : Nat} {f : Addr} {fd : FuncData} {ps : List Str} {sp : Sp}
theorem FnG.of (F : FnOk P w K mg base CX k f fd ps sp) : FnG P w K mg base CX k f fd ps sp :=
  ⟨fun h => F.len _ _ _ _ h, fun _ hr he hb hv hs => F.run _ _ _ _ _ _ _ _ _ hr he hb hv hs⟩
theorem FnG.up {j : Nat} (F : FnG P w K mg base CX j f fd ps sp) (h : j ≤ k) : FnG P w K mg base CX k f fd ps sp :=
  ⟨F.cnt, fun g hr he hb hv hs => F.go g (hr.mono h) he hb hv hs⟩
/-- a def by its body, entered while no repr is under way -/
theorem fun_okG {x qual : Str} {st : Stmt} {N : List Str} (F : Fun K x qual st f fd) (S : FnScope N ps (defScope st)) (len : ∀ vs H Q E, sp vs H Q E → vs.length = ps.length)
    (hb : ∀ (cdv : Value) (A : Around) (out : List Env) (s : Shared) (H : Hp) (vs : List V) (Q : VK) (E : XK), A.guards = some [] →
      Room k (A.deeper (envOfC qual (defScope st) s.heap.objs.size f cdv)) → sp vs H Q E →
      ∃ t, PSs (cxOf CX P w K mg base N qual (defScope st) f cdv A out s H E).nox (defBody st) t ∧ t { nx := fun _ H' => Q .non H', rt := Q } (start N vs) H) :
    FnG P w K mg base CX (k + 1) f fd ps sp := by
  refine ⟨fun h => len _ _ _ _ h, fun {A out s H ar us vs Q E} hg hr e0 hbd r hsp => ?_⟩
  obtain ⟨oc, od, kV, doc, pm, an, cdv, ct, osl, rfl, lk, hcd⟩ := F.ex
  obtain ⟨t, ht, hq⟩ := hb cdv A out s H vs Q E hg (hr.deeper _) hsp
  have KX : K.In s.heap := e0.mod.kin.keeps fun b o e => (e0.bs b o e).1
  have lim : s.heap.NoLimit := e0.mod.nolimit.keeps fun b o e => (e0.bs b o e).1
  have kinds : ∀ y ∈ ps.zip us, (defScope st).names.lookup y.1 = some .local ∨ ((defScope st).names.lookup y.1 = some .cell ∧
      ((cellsFrom (s.heap.objs.size + 1) (defScope st).names []).lookup y.1).isSome = true) := by
    rintro ⟨n, v⟩ hy
    exact (S.par n (List.of_mem_zip hy).1).elim .inl fun q => .inr ⟨q, PySem.W.cellsFrom_some _ _ _ (.inl q)⟩
  refine codeAny_call_function hr.depth (KX _ _ lk) rfl S.co S.gen rfl (PySem.W.codeRec_of KX hcd) (hbd _ _ _ _ ?_)
  refine wpAny_newFunctionEnv_cells S.kind kinds fun env he s1 x => ?_
  subst he
  refine ⟨lim.keeps x.toInCall.keep, codeAny_func ?_⟩
  have I := inv_start (CX := CX) (E := E) (P := P) (w := w) S hr.hd e0 (len _ _ _ _ hsp) r x
  refine wpAny_mono (ht.nox.run [] s1 (start N vs) H _ I hq) (fun fl s' hs => ?_) fun _ _ hs => hs
  cases fl with
  | ret u => exact let ⟨v, σ', H', J, rv, q⟩ := hs; ⟨v, H', J.os, J.bare, J.base, J.hok, rv, q⟩
  | next => exact let ⟨σ', H', J, q⟩ := hs; ⟨V.non, H', J.os, J.bare, J.base, J.hok, rfl, q⟩
  | brk => exact let ⟨_, _, _, q⟩ := hs; q.elim
  | cont => exact let ⟨_, _, _, q⟩ := hs; q.elim
end
/-! ### repr of nested data -/
/-- repr(v), v nested data (no dict) that a heap bears -/
def rRep (K : PySem.W.Frag) : List V → Hp → VK → Prop := fun xs H Q => ∃ a d, xs = [.ref a] ∧ Dp K H (.ref a) d ∧
  d.showable = true ∧ d.hasDict = false ∧ d.depth ≤ 62 ∧ d.shown.length ≤ sizeLine ∧ Q (.str d.shown) H
theorem call_rep {X : Cx} {k : Nat} (hr : Room k X.A) (hg : X.A.guards = some []) : CallR X (.builtin "repr") (rRep X.K) := by
  intro pins s σ H xs us Q I r h
  obtain ⟨a, d, rfl, hd, h1, h2, h3, h4, q⟩ := h
  obtain ⟨u, rfl, ru⟩ := vals1 r
  cases ru
  obtain ⟨as, rd⟩ := Dp.reads I d _ _ hd rfl
  have hu := hr.units
  exact repr_of_reads' rd h1 (PyData.noDict_hsm h2) hg (by omega) (fun _ _ e => e) (fun h' u tk hk => ⟨.str d.shown, H, I.kept hk, ⟨u, rfl⟩, q⟩) h4
/-! ### nested data that a heap bears -/
theorem DpAll.ints {K : PySem.W.Frag} {H : Hp} : ∀ ns : List Int, DpAll K H (ns.map V.int) (ns.map PyData.int)
  | [] => .nil
  | n :: r => .cons (.int n) (DpAll.ints r)
mutual
theorem Dp.same {K : PySem.W.Frag} {H H' : Hp} (e : ∀ a, (∀ xs, SqL K H a xs → SqL K H' a xs) ∧ ∀ xs, SqT K H a xs → SqT K H' a xs) : ∀ {v : V} {d : PyData}, Dp K H v d → Dp K H' v d
  | _, _, .non => .non
  | _, _, .bl b => .bl b
  | _, _, .int i => .int i
  | _, _, .str x => .str x
  | _, _, .lst h t => .lst ((e _).1 _ h) (DpAll.same e t)
  | _, _, .tup h t => .tup ((e _).2 _ h) (DpAll.same e t)
theorem DpAll.same {K : PySem.W.Frag} {H H' : Hp} (e : ∀ a, (∀ xs, SqL K H a xs → SqL K H' a xs) ∧ ∀ xs, SqT K H a xs → SqT K H' a xs) : ∀ {vs : List V} {ds : List PyData}, DpAll K H vs ds → DpAll K H' vs ds
  | _, _, .nil => .nil
  | _, _, .cons h t => .cons (Dp.same e h) (DpAll.same e t)
end
end Loc

set_option Elab.async false
set_option linter.all false
set_option maxRecDepth 100000
namespace Loc
open PySem PySem.Spec PyProof.Rows L2
/-- the law's call, its def entered while no repr is under way -/
theorem callG {P : Program} {w : World} {K : PySem.W.Frag} {mg mb : Str → Option Value} {k : Nat} {fa a : Addr} {fd : FuncData} {x : Str} {sp : Sp} {s : Shared} {vs : List Value} {ns : List Int}
    (KX : K.In s.heap) (g1 : s.heap.Ns mainGlobals mg) (g2 : s.heap.Ns builtinsNs mb) (g3 : ∀ x : Str, x ≠ "__name__" → mb x = bootBuiltins x) (lim : s.heap.NoLimit) (gs : s.gens = #[])
    (ha : s.heap.get? a = some { cls := .type "list", data := .seq vs.toArray }) (hi : IntsAre vs ns) (hl : ns.length ≤ sizeLine) (hr : Room k callerA)
    (F : ∀ base : Heap, K.In base → base.Ns mainGlobals mg → FnG P w K mg base CX0 k fa fd [x] sp) (hb : ∀ (s : Shared) (u : Value), BindsTo s fd ⟨[u], []⟩ [(x, u)])
    (hsp : ∀ H : Hp, SqL K H a (ns.map V.int) → sp [.ref a] H (fun v _ => v = .bl true) fun _ _ _ => False) :
    codeAny (model P w) callerA (.call (.ref fa) ⟨[.ref a], []⟩) (fun r s' => r = .ok (.ret (.bool true)) ∧ OldK s.heap s'.heap ∧ s'.os = s.os ∧ AllBare s'.gens) s := by
  have rv := vals_ints hi
  have ln := hi.length
  -- H tracks at most the script, and that only where the module has not written it
  have main : ∀ H : Hp, (∀ b, H b = none ∨ (b = a ∧ K.lookup a = none ∧ ∃ o xs, H b = some (.frz o (.lst xs)))) → SqL K H a (ns.map V.int) → HOk P w H s.heap →
      codeAny (model P w) callerA (.call (.ref fa) ⟨[.ref a], []⟩) (fun r s' => r = .ok (.ret (.bool true)) ∧ OldK s.heap s'.heap ∧ s'.os = s.os ∧ AllBare s'.gens) s := by
    intro H only sq hok
    have nsOf : ∀ {b : Addr} {m : Str → Option Value}, s.heap.Ns b m → (hidT s.heap H).Ns b m := by
      rintro b m ⟨o, es, ep, e, d, r⟩
      refine ⟨o, es, ep, hidT_get e ?_, d, r⟩
      rcases only b with z | ⟨rfl, _, _⟩
      · exact z
      · rw [ha] at e
        cases e
        exact Data.noConfusion d
    have kb : K.In (hidT s.heap H) := fun b o e => hidT_get (KX b o e) (by
      rcases only b with z | ⟨rfl, z, _⟩
      · exact z
      · rw [z] at e
        cases e)
    obtain ⟨mc, l1, l2⟩ := lim
    have e0 : Env0 P w K mg (hidT s.heap H) callerA [] s H :=
      { frames := rfl, mod := ⟨kb, nsOf g1, ⟨mb, nsOf g2, g3⟩, ⟨mc, nsOf l1, l2⟩⟩, bs := fun _ _ e => of_hidT e, bsz := Nat.le_of_eq (hidT_size _ _), funs := trivial,
        frf := fun b hb => absurd (show b ∈ ([] : List Addr) from hb) List.not_mem_nil, hok := hok, bare := .of_eq gs }
    refine codeAny_mono ((F _ kb (nsOf g1)).go (us := [.ref a]) (vs := [.ref a]) rfl hr e0 (hb s (.ref a)) (.cons rfl .nil) (hsp H sq)) fun r s' h => ?_
    match r, h with
    | .error e, h => exact h.elim
    | .ok .next, h => exact h.elim
    | .ok .brk, h => exact h.elim
    | .ok .cont, h => exact h.elim
    | .ok (.ret u), ⟨v, H', os, bare, un, hok', rel, q⟩ =>
      have q' : v = .bl true := q
      subst q'
      have ru : u = Value.bool true := rel
      subst ru
      refine ⟨rfl, OldK.of_keep fun b o e => ?_, os, bare⟩
      rcases only b with z | ⟨_, _, ob, xs, z⟩
      · exact un.keep b o e z (fun m => absurd (show b ∈ ([] : List Addr) from m) List.not_mem_nil) List.not_mem_nil
      · have o1 := (hok b _ z).1
        have o2 := (hok' b _ (un.frzs b ob _ z)).1
        rw [e] at o1
        cases o1
        exact o2
  cases hk : K.lookup a with
  | some o =>
    have e := KX a o hk
    rw [ha] at e
    cases e
    refine main (fun _ => none) (fun _ => .inl rfl) (.inr ⟨_, vs.toArray, _, hk, rfl, rfl, rfl, ?_, by simpa using rv⟩) fun b u z => nomatch (show (none : Option HO) = some u from z)
    rw [List.size_toArray, ln]
    exact hl
  | none =>
    refine main (fun b => if b = a then some (.frz { cls := .type "list", data := .seq vs.toArray } (.lst (ns.map V.int))) else none) (fun b => ?_) (.inl (.inr ⟨_, if_pos rfl⟩)) fun b u z => ?_
    · by_cases e : b = a
      · exact .inr ⟨e, hk, _, _, if_pos e⟩
      · exact .inl (if_neg e)
    · by_cases e : b = a
      · have z' := (if_pos e).symm.trans z
        cases z'
        rw [e]
        exact ⟨ha, by rw [List.length_map]; exact hl, vs, _, rv, ha⟩
      · have z' := (if_neg e).symm.trans z
        cases z'
/-- the goal that k_head leaves, from such a promise of the law's def -/
theorem walkG {l : PySem.W.OpenLaw} {n k : Nat} {q : Program} {loose : List Str} {XP : (Str → Option Value) → Heap → Prop} {YP : World → Heap → Prop} {d : DefRec} {K : Params → PySem.W.Frag} {sp : PySem.W.Frag → Sp} {x : Str}
    (hn : l.most = some n) (hz : n ≤ sizeLine) (hd : d.params.defaults = []) (hr : Room k callerA) (hY : ∀ (w : World) (h : Heap), YP w h → (K w.params).In h)
    (F : ∀ (w : World) (mg : Str → Option Value) (fa : Addr) (h : Heap), (K w.params).In h → h.Ns mainGlobals mg → mg d.name = some (.ref fa) →
      ∃ fd : FuncData, (∀ (s : Shared) (u : Value), BindsTo s fd ⟨[u], []⟩ [(x, u)]) ∧
        ∀ base : Heap, (K w.params).In base → base.Ns mainGlobals mg → FnG l.prog w (K w.params) mg base CX0 k fa fd [x] (sp (K w.params)))
    (hsp : ∀ (K : PySem.W.Frag) (H : Hp) (a : Addr) (ns : List Int), ns.length ≤ n → SqL K H a (ns.map V.int) → sp K [.ref a] H (fun v _ => v = .bl true) fun _ _ _ => False) :
    PySem.W.WalkO q loose XP YP l.row.toRowW d [] (fun f vs => PySem.call f vs) := by
  refine Att.attach_call hn hd fun w s0 s1 mg mb fa o pm cd doc a vs ns G Y ho hd' hcd hmg hobj hints hlen hg => ?_
  obtain ⟨fd, hb, hF⟩ := F w mg fa _ (hY w _ Y) G.T.g hmg
  exact callG (hY w _ Y) G.T.g G.T.b G.T.builtins G.T.nolimit hg hobj hints (Nat.le_trans hlen hz) hr hF hb fun H hS => hsp _ H a ns hlen hS
end Loc

set_option Elab.async false
set_option linter.all false
set_option maxRecDepth 100000
/-! ### the heap but for one object -/
namespace Loc
open PySem PySem.Spec PyProof.Rows L2
/-- all but what stands at p is as it was -/
def But (p : Addr) (H H' : Hp) : Prop := ∀ b o, b ≠ p → H b = some o → H' b = some o
theorem But.refl (p : Addr) (H : Hp) : But p H H := fun _ _ _ h => h
theorem But.trans {p : Addr} {H H1 H2 : Hp} (a : But p H H1) (b : But p H1 H2) : But p H H2 := fun c o n h => b c o n (a c o n h)
theorem But.set {p : Addr} {H : Hp} {o : HO} : But p H (upd H p o) := fun b _ n h => by rw [upd_ne n]; exact h
theorem But.new {p q : Addr} {H : Hp} {o : HO} (h : H q = none) : But p H (upd H q o) := fun b _ _ e => by rw [upd_ne (ne_of_none e h)]; exact e
theorem But.at {p b : Addr} {H H' : Hp} {o : HO} (e : But p H H') (n : b ≠ p) (h : H b = some o) : H' b = some o := e b o n h
theorem But.sql {p a : Addr} {K : PySem.W.Frag} {H H' : Hp} {xs : List V} (e : But p H H') (n : a ≠ p) (h : SqL K H a xs) : SqL K H' a xs := by
  rcases h with (h | ⟨o, h⟩) | h
  · exact .inl (.inl (e _ _ n h))
  · exact .inl (.inr ⟨o, e _ _ n h⟩)
  · exact .inr h
/-- a tuple is no list -/
theorem But.sqt {p a : Addr} {K : PySem.W.Frag} {H H' : Hp} {xs ys : List V} (e : But p H H') (hp : H p = some (.lst ys)) (h : SqT K H a xs) : SqT K H' a xs := by
  rcases h with (h | ⟨o, h⟩) | h
  · exact .inl (.inl (e _ _ (ne_of h hp (by intro z; cases z)) h))
  · exact .inl (.inr ⟨o, e _ _ (ne_of h hp (by intro z; cases z)) h⟩)
  · exact .inr h
/-! ### the pot that the law draws from -/
/-- a pot's three numbers, drawn from at most c times -/
def PotO (o : HO) (c : Nat) : Prop := ∃ own mix cnt : Int, o = .lst [.int own, .int mix, .int cnt] ∧ 0 ≤ own ∧ own < 2 ^ 1000 ∧ 0 ≤ mix ∧ mix < 2305843009213693952 ∧ 0 ≤ cnt ∧ cnt ≤ c
def Pot (H : Hp) (p : Addr) (c : Nat) : Prop := ∃ o, H p = some o ∧ PotO o c
theorem PotO.le {o : HO} {c d : Nat} (h : PotO o c) (l : c ≤ d) : PotO o d := by
  obtain ⟨a, b, e, h1, h2, h3, h4, h5, h6, h7⟩ := h
  exact ⟨a, b, e, h1, h2, h3, h4, h5, h6, by omega⟩
theorem Pot.le {H : Hp} {p : Addr} {c d : Nat} (h : Pot H p c) (l : c ≤ d) : Pot H p d := let ⟨o, e, q⟩ := h; ⟨o, e, q.le l⟩
theorem Pot.ls {H : Hp} {p : Addr} {c : Nat} (h : Pot H p c) : ∃ ys, H p = some (.lst ys) := by
  obtain ⟨o, e, a, b, z, rfl, _⟩ := h
  exact ⟨_, e⟩
theorem Pot.new {H : Hp} {p q : Addr} {c : Nat} {o : HO} (h : Pot H p c) (n : H q = none) : Pot (upd H q o) p c := by
  obtain ⟨x, e, r⟩ := h
  exact ⟨x, by rw [upd_ne (ne_of_none e n)]; exact e, r⟩
theorem Pot.oth {H : Hp} {p q : Addr} {c : Nat} {o : HO} (h : Pot H p c) (n : p ≠ q) : Pot (upd H q o) p c := by
  obtain ⟨x, e, r⟩ := h
  exact ⟨x, by rw [upd_ne n]; exact e, r⟩
theorem Pot.put {H : Hp} {p : Addr} {c : Nat} {o : HO} (h : PotO o c) : Pot (upd H p o) p c := ⟨o, upd_same, h⟩

/-- script: the script; k: a small number -/
def spPot (K : PySem.W.Frag) : Sp := fun vs H Q _ => ∃ (a : Addr) (ns : List Int) (k : Nat), vs = [.ref a, .int k] ∧ SqL K H a (ns.map V.int) ∧ ns.length ≤ 1000 ∧ k ≤ 1000 ∧
  ∀ p o, H p = none → PotO o 0 → Q (.ref p) (upd H p o)
def spTake : Sp := fun vs H Q _ => ∃ (p : Addr) (b : Int) (c : Nat), vs = [.ref p, .int b] ∧ Pot H p c ∧ c < 1000000 ∧ 0 < b ∧ b < 2 ^ 1000 ∧
  ∀ (d : Int) H', 0 ≤ d → d < b → But p H H' → Pot H' p (c + 1) → Q (.int d) H'
def spOf : Sp := fun vs H Q _ => ∃ (p a : Addr) (xs : List V) (c : Nat), vs = [.ref p, .ref a] ∧ Pot H p c ∧ c < 1000000 ∧ a ≠ p ∧ H a = some (.lst xs) ∧ xs ≠ [] ∧ xs.length ≤ 1000 ∧
  ∀ (j : Nat) (x : V) H', xs[j]? = some x → But p H H' → Pot H' p (c + 1) → Q x H'

/-- ** of a great number -/
def CPowW (i j : Int) : Prop := 0 ≤ j ∧ (Builtin.Int.intBits i : Int) * j ≤ 2 ^ 27
theorem op_powW {X : Cx} : OpR X (binaryOp .Pow) (rI CPowW fun i j => .int (i ^ j.toNat)) := opI fun _ _ _ _ _ _ _ hc q => pow_int hc.1 hc.2 q
theorem pow60 : CPowW ((10 : Int) ^ (60 : Int).toNat) 5 := ⟨by decide, by decide +kernel⟩
theorem small_line {n : Nat} (h : n ≤ 100000) : n ≤ sizeLine := Nat.le_trans h (by decide)
theorem small_line' {n : Nat} (h : n ≤ 100000) : n < sizeLine := Nat.lt_of_le_of_lt h (by decide)
end Loc
namespace Loc
open PySem PySem.Spec PyProof.Rows L2
/-- two ways that meet in what S says of the value -/
theorem joinIf {b : Bool} {ta tb : TE} {σ : L2.St} {H : Hp} {Q : VK} (S : VK) (key : ∀ v H', S v H' → Q v H') (h1 : b = true → ∀ R : VK, (∀ v H', S v H' → R v H') → ta σ H R)
    (h2 : b = false → ∀ R : VK, (∀ v H', S v H' → R v H') → tb σ H R) : if b = true then ta σ H Q else tb σ H Q := by
  cases b
  · rw [if_neg Bool.false_ne_true]
    exact h2 rfl Q key
  · rw [if_pos rfl]
    exact h1 rfl Q key
theorem mod_pos {a m : Int} (h : 0 < m) : 0 ≤ a % m ∧ a % m < m := ⟨Int.emod_nonneg _ (by omega), Int.emod_lt_of_pos _ h⟩
theorem pow300 : ((10 : Int) ^ (60 : Int).toNat) ^ (5 : Int).toNat < 2 ^ 1000 := by decide +kernel
theorem pow300' : 0 < ((10 : Int) ^ (60 : Int).toNat) ^ (5 : Int).toNat := by decide +kernel
end Loc
namespace Loc
theorem bit_small (b : Bool) : -(2 ^ 64) < (if b = true then (1 : Int) else 0) ∧ (if b = true then (1 : Int) else 0) < 2 ^ 64 := by
  cases b <;> decide
theorem mul_bit {a m : Int} (h : 0 ≤ a ∧ a < m) (b : Bool) : 0 ≤ a * (if b = true then (1 : Int) else 0) ∧ a * (if b = true then (1 : Int) else 0) < m := by
  cases b
  · rw [if_neg Bool.false_ne_true, Int.mul_zero]
    omega
  · rw [if_pos rfl, Int.mul_one]
    exact h
end Loc
namespace Loc
theorem natAbs_lt {b : Int} {n : Nat} (h0 : 0 ≤ b) (h : b < 2 ^ n) : b.natAbs < 2 ^ n := by
  obtain ⟨m, rfl⟩ := Int.eq_ofNat_of_zero_le h0
  rw [← PySem.W.kbt_cast n] at h
  exact Int.ofNat_lt.mp h
theorem div_small {a b : Int} (h0 : 0 ≤ a) (h : 0 < b) : 0 ≤ a / b ∧ a / b ≤ a := ⟨Int.ediv_nonneg h0 (by omega), Int.ediv_le_self b h0⟩
/-- the five numbers that a draw is reckoned with -/
theorem prime_at {n : Int} (h : 0 ≤ n) : ∃ q : Int, L2.atI [L2.V.int 2147483647, .int 2147483629, .int 2147483587, .int 2147483579, .int 2147483563] (n % 5) = some (.int q) ∧ 0 < q ∧ q < 2147483648 := by
  have m := Int.emod_nonneg n (show (5 : Int) ≠ 0 by decide)
  have l := Int.emod_lt_of_pos n (show (0 : Int) < 5 by decide)
  generalize n % 5 = r at m l
  have c : r = 0 ∨ r = 1 ∨ r = 2 ∨ r = 3 ∨ r = 4 := by omega
  rcases c with rfl | rfl | rfl | rfl | rfl
  · exact ⟨2147483647, rfl, by decide, by decide⟩
  · exact ⟨2147483629, rfl, by decide, by decide⟩
  · exact ⟨2147483587, rfl, by decide, by decide⟩
  · exact ⟨2147483579, rfl, by decide, by decide⟩
  · exact ⟨2147483563, rfl, by decide, by decide⟩
/-- what stands under the third power -/
theorem base_small {mix c : Int} (h3 : 0 ≤ mix) (h4 : mix < 2305843009213693952) (h5 : 0 ≤ c) (h6 : c ≤ 1000000) : 0 ≤ mix + 99991 * c * c + 29 ∧ mix + 99991 * c * c + 29 < 2 ^ 64 := by
  have k1 : 0 ≤ c * c := Int.mul_nonneg h5 h5
  have k2 : c * c ≤ 1000000 * 1000000 := Int.mul_le_mul h6 h6 h5 (by decide)
  rw [Int.mul_assoc]
  omega
end Loc
namespace Loc
theorem small_pow {n : Nat} (h : n ≤ 1000) : (n : Int) < 2 ^ 1000 := Int.lt_of_le_of_lt (show (n : Int) ≤ 1000 by omega) (by decide +kernel)
end Loc
namespace Loc
open PySem PySem.Spec PyProof.Rows L2
theorem sameT {K : PySem.W.Frag} {H H' : Hp} {a : Addr} {xs : List V} (e : Same H H') (h : SqT K H a xs) : SqT K H' a xs := by
  rcases h with (h | ⟨o, h⟩) | h
  · exact .inl (.inl (e _ _ h))
  · exact .inl (.inr ⟨o, e _ _ h⟩)
  · exact .inr h
theorem sameN {H : Hp} {p : Addr} {o : HO} (h : H p = none) : Same H (upd H p o) := fun b x e => by rw [upd_ne (ne_of_none e h)]; exact e
/-- a new object is written again -/
theorem sameW {H H' : Hp} {p : Addr} {o : HO} (e : Same H H') (h : H p = none) : Same H (upd H' p o) := fun b x q => by rw [upd_ne (ne_of_none q h)]; exact e b x q
theorem Same.but {H H' : Hp} {p : Addr} (e : Same H H') : But p H H' := fun b o _ h => e b o h
theorem But.same {H H' : Hp} {p : Addr} (e : But p H H') (h : H p = none) : Same H H' := fun b o q => e b o (ne_of_none q h) q
/-- a new object is written again -/
theorem But.wr {p q : Addr} {H H' : Hp} {o : HO} (e : But p H H') (h : H q = none) : But p H (upd H' q o) := fun b x n r => by rw [upd_ne (ne_of_none r h)]; exact e b x n r
theorem small_take {α : Type} {l : List α} {i n : Nat} (h : l.length ≤ n) : (l.take i).length ≤ n := by
  rw [List.length_take]
  omega
theorem line5 {n : Nat} (h : n ≤ 100000) : n < sizeLine := small_line' h
end Loc
namespace Loc
open PySem PySem.Spec PyProof.Rows L2
/-- a list or a tuple -/
def SqA (K : PySem.W.Frag) (H : Hp) (a : Addr) (xs : List V) : Prop := SqL K H a xs ∨ SqT K H a xs
theorem SqA.same {K : PySem.W.Frag} {H H' : Hp} {a : Addr} {xs : List V} (h : SqA K H a xs) (e : Same H H') : SqA K H' a xs := h.imp e.seq (sameT e)
theorem SqA.ix {K : PySem.W.Frag} {H : Hp} {a : Addr} {xs : List V} {i : Int} {v : V} {Q : VK} (h : SqA K H a xs) (e : atI xs i = some v) (q : Q v H) : rIx K (.ref a) (.int i) H Q := by
  rcases h with h | h
  · exact .inl ⟨a, xs, i, v, rfl, rfl, h, e, q⟩
  · exact .inr (.inl ⟨a, xs, i, v, rfl, rfl, h, e, q⟩)
theorem half_pow (x t : Nat) : ((x / 2 ^ t : Nat) : Int) / 2 = ((x / 2 ^ (t + 1) : Nat) : Int) := by
  rw [Nat.pow_succ, ← Nat.div_div_eq_div_mul]
  omega
end Loc
namespace Loc
theorem get_of {α : Type} {l : List α} {i : Nat} (h : i < l.length) : ∃ x, l[i]? = some x := ⟨l[i], List.getElem?_eq_getElem h⟩
end Loc
namespace Loc
theorem take_more {α : Type} {l : List α} {i : Nat} {x : α} (h : l[i]? = some x) : l.take (i + 1) = l.take i ++ [x] := by
  rw [List.take_add_one, h]
  rfl
theorem int_congr {a b : Int} (h : a = b) : L2.V.int a = L2.V.int b := by rw [h]
end Loc
namespace Loc
open PySem PySem.Spec PyProof.Rows L2
/-- a value that is one of those that S tells -/
theorem anyE {te : TE} {σ : L2.St} {H : Hp} {Q : VK} (S : VK) (key : ∀ v H', S v H' → Q v H') (h : ∀ R : VK, (∀ v H', S v H' → R v H') → te σ H R) : te σ H Q := h Q key
theorem anyT {t : TT} {σ : L2.St} {H : Hp} {Q : Bool → Hp → Prop} (S : Bool → Hp → Prop) (key : ∀ b H', S b H' → Q b H') (h : ∀ R : Bool → Hp → Prop, (∀ b H', S b H' → R b H') → t σ H R) : t σ H Q := h Q key
theorem joinS {b : Bool} {t u : TS} {D : Ends} {σ : L2.St} {H : Hp} (S : L2.St → Hp → Prop) (key : ∀ σ' H', S σ' H' → D.nx σ' H')
    (h1 : b = true → ∀ N : L2.St → Hp → Prop, (∀ σ' H', S σ' H' → N σ' H') → t { D with nx := N } σ H)
    (h2 : b = false → ∀ N : L2.St → Hp → Prop, (∀ σ' H', S σ' H' → N σ' H') → u { D with nx := N } σ H) : if b = true then t D σ H else u D σ H := by
  cases b
  · rw [if_neg Bool.false_ne_true]
    exact h2 rfl D.nx key
  · rw [if_pos rfl]
    exact h1 rfl D.nx key
theorem But.free {p q : Addr} {H H' : Hp} {o : HO} (e : But p H H') (hp : H' p = some o) (h : H' q = none) : H q = none := by
  cases z : H q with
  | none => rfl
  | some x =>
    have n : q ≠ p := fun k => by rw [k, hp] at h; cases h
    rw [e q x n z] at h
    cases h
theorem Pot.ex {H : Hp} {p : Addr} {c : Nat} (h : Pot H p c) : ∃ o, H p = some o := let ⟨o, e, _⟩ := h; ⟨o, e⟩
theorem But.freeP {p q : Addr} {H H' : Hp} {c : Nat} (e : But p H H') (hp : Pot H' p c) (h : H' q = none) : H q = none := let ⟨_, k⟩ := hp.ex; e.free k h
theorem Pot.ne {H : Hp} {p q : Addr} {c : Nat} (hp : Pot H p c) (h : H q = none) : q ≠ p := fun z => by
  obtain ⟨o, e⟩ := hp.ex
  rw [z, e] at h
  cases h
/-! lists of ints as data -/
theorem canLay_ints : ∀ ns : List Int, PyData.canLayAll0 (ns.map PyData.int) = true
  | [] => rfl
  | n :: r => by
    show (PyData.canLay0 (.int n) && PyData.canLayAll0 (r.map PyData.int)) = true
    rw [canLay_ints r]
    rfl
theorem depth_ints : ∀ ns : List Int, PyData.depthAll (ns.map PyData.int) ≤ 1
  | [] => by simp [PyData.depthAll]
  | n :: r => by
    have := depth_ints r
    simp only [List.map_cons, PyData.depthAll, PyData.depth]
    omega
theorem shaped_ints (ns : List Int) : SeqAt.shaped (.list (ns.map PyData.int)) = true ∧ SeqAt.shaped (.tuple (ns.map PyData.int)) = true := by
  have d := depth_ints ns
  constructor
  · unfold SeqAt.shaped
    rw [Bool.and_eq_true]
    exact ⟨by simpa [PyData.canLay0] using canLay_ints ns, decide_eq_true (by simp only [PyData.depth]; omega)⟩
  · unfold SeqAt.shaped
    rw [Bool.and_eq_true]
    exact ⟨by simpa [PyData.canLay0] using canLay_ints ns, decide_eq_true (by simp only [PyData.depth]; omega)⟩
/-- xs == [], xs of ints -/
theorem eqv_empty (ns : List Int) : PyData.eqv (.list (ns.map PyData.int)) (.list []) = ns.isEmpty := by
  cases ns <;> simp [PyData.eqv, PyData.eqvAll]
theorem eqv_emptyT (ns : List Int) : PyData.eqv (.tuple (ns.map PyData.int)) (.tuple []) = ns.isEmpty := by
  cases ns <;> simp [PyData.eqv, PyData.eqvAll]
end Loc
namespace Loc
theorem pow_of {d : Int} {n : Nat} (h0 : 0 ≤ d) (h : d ≤ n) : ∃ m : Nat, (1 : Int) * 2 ^ d.toNat = (m : Int) ∧ 0 < m ∧ m ≤ 2 ^ n := by
  refine ⟨2 ^ d.toNat, ?_, Nat.two_pow_pos _, Nat.pow_le_pow_right (by decide) (by omega)⟩
  rw [Int.one_mul, PySem.W.kbt_cast]
end Loc
namespace Loc
open PySem PySem.Spec PyProof.Rows L2
theorem cb1_any {r : List V → Hp → VK → Prop} {te : TE} {σ : L2.St} {H : Hp} {Q : VK} (S : VK) (key : ∀ v H', S v H' → r [v] H' Q) (h : ∀ R : VK, (∀ v H', S v H' → R v H') → te σ H R) : tCB r (tCons te tNil) σ H Q := h _ key
theorem cons_any {te : TE} {tr : TA} {σ : L2.St} {H : Hp} {Q : List V → Hp → Prop} (S : VK) (key : ∀ v H', S v H' → tr σ H' fun vs H2 => Q (v :: vs) H2) (h : ∀ R : VK, (∀ v H', S v H' → R v H') → te σ H R) : tCons te tr σ H Q := h _ key
theorem if_any {T : TT} {ta tb : TE} {σ : L2.St} {H : Hp} {Q : VK} (S : Bool → Hp → Prop) (key : ∀ b H', S b H' → if b = true then ta σ H' Q else tb σ H' Q) (h : ∀ R : Bool → Hp → Prop, (∀ b H', S b H' → R b H') → T σ H R) : tIf T ta tb σ H Q := h _ key
theorem ifs_any {T : TT} {t u : TS} {D : Ends} {σ : L2.St} {H : Hp} (S : Bool → Hp → Prop) (key : ∀ b H', S b H' → if b = true then t D σ H' else u D σ H') (h : ∀ R : Bool → Hp → Prop, (∀ b H', S b H' → R b H') → T σ H R) : tIfS T t u D σ H := h _ key
end Loc
namespace Loc
open PySem PySem.Spec PyProof.Rows L2
theorem cb1_var {r : List V → Hp → VK → Prop} {i : Nat} {σ : L2.St} {H : Hp} {Q : VK} (v : V) (h : σ[i]? = some (some v)) (k : r [v] H Q) : tCB r (tCons (tVar i) tNil) σ H Q := ⟨v, h, k⟩
end Loc

set_option Elab.async false
set_option linter.all false
set_option maxRecDepth 100000
namespace Loc
open PySem PySem.Spec PyProof.Rows L2 RZ
/-! ### repr of a tuple of ints -/
theorem shown_len {n : Nat} (h : n < 10 ^ 70) : (PyData.shown (.int (n : Int))).length ≤ 70 := by
  rw [PyData.shown_int]
  refine toString_length_le (Int.natCast_nonneg _) (by decide) ?_
  have := Int.ofNat_lt.mpr h
  exact Int.lt_of_lt_of_le this (by decide +kernel)
theorem shown_sum : ∀ ns : List Nat, (∀ n ∈ ns, n < 10 ^ 70) → ((PyData.shownAll ((ns.map fun n : Nat => (n : Int)).map PyData.int)).map (·.length)).sum ≤ 70 * ns.length
  | [], _ => by simp [PyData.shownAll]
  | n :: r, h => by
    have h1 := shown_len (h n List.mem_cons_self)
    have h2 := shown_sum r fun m hm => h m (List.mem_cons_of_mem _ hm)
    simp only [List.map_cons, PyData.shownAll, List.sum_cons, List.length_cons]
    omega
theorem log_small {n : Nat} (h : n < 10 ^ 70) : ((n : Int)).natAbs.log2 < 1920 := by
  rw [Int.natAbs_natCast]
  by_cases z : n = 0
  · subst z
    decide
  · exact (Nat.log2_lt z).mpr (Nat.lt_trans h (by decide +kernel))
theorem noDict_ints : ∀ ns : List Int, PyData.hasDictAll (ns.map PyData.int) = false
  | [] => by simp [PyData.hasDictAll]
  | n :: r => by simp [PyData.hasDictAll, PyData.hasDict, noDict_ints r]
/-- what repr asks of a tuple of small numbers -/
theorem rep_ints {K : PySem.W.Frag} {H : Hp} {a : Addr} {ns : List Nat} {Q : VK} (hS : SqT K H a (ns.map fun n : Nat => V.int (n : Int))) (h : ∀ n ∈ ns, n < 10 ^ 70) (hl : ns.length ≤ 100000)
    (q : Q (.str (PyData.shown (.tuple ((ns.map fun n : Nat => (n : Int)).map PyData.int)))) H) : rRep K [.ref a] H Q := by
  have dp := depth_ints (ns.map fun n : Nat => (n : Int))
  have sm := shown_sum ns h
  have e : (ns.map fun n : Nat => V.int (n : Int)) = (ns.map fun n : Nat => (n : Int)).map V.int := by
    rw [List.map_map]
    rfl
  rw [e] at hS
  refine ⟨a, _, rfl, .tup hS (DpAll.ints _), ?_, ?_, ?_, ?_, q⟩
  · show PyData.showableAll _ = true
    refine PyData.showableAll_ints _ fun n hn => ?_
    obtain ⟨m, hm, rfl⟩ := List.mem_map.mp hn
    exact log_small (h m hm)
  · show PyData.hasDictAll _ = false
    exact noDict_ints _
  · simp only [PyData.depth]
    omega
  · show (tupleText _).length ≤ sizeLine
    have t := tupleText_len_le (PyData.shownAll ((ns.map fun n : Nat => (n : Int)).map PyData.int))
    rw [PyData.shownAll_length, List.length_map, List.length_map] at t
    rw [sizeLine_eq]
    omega
/-! ### [.. for x, y in zip(t, u)], t and u tuples -/
theorem lc_zipT {K : PySem.W.Frag} {a b : Addr} {xs ys : List V} {g : TG} {tt : TT} {te : TE} {vs : List Nat} {σ : L2.St} {H1 : Hp} {D : Addr} {Qd : Hp → Prop} (Pv : Nat → Hp → Prop)
    (h0 : Pv 0 (upd H1 D (.lst []))) (hl : ∀ i H, Pv i H → SqT K H a xs ∧ SqT K H b ys)
    (hs : ∀ i x y T H, xs[i]? = some x → ys[i]? = some y → Pv i H → H T = none → g (.ref T) (wipe σ vs) (upd H T (.tup [x, y])) fun σ2 H2 => wipe σ2 vs = wipe σ vs ∧ tt σ2 H2 fun k H3 =>
      if k = true then te σ2 H3 fun z H4 => ∃ acc, H4 D = some (.lst acc) ∧ acc.length < sizeLine ∧ Pv (i + 1) (upd H4 D (.lst (acc ++ [z]))) else Pv (i + 1) H3)
    (hd : ∀ i H, Pv i H → (xs.length ≤ i ∨ ys.length ≤ i) → Qd H) :
    ∃ W : Nat → Nat → Hp → Prop, (∃ m, W 0 m (upd H1 D (.lst []))) ∧ ∀ i m H, W i m H →
      ((ItzT K a b).stop i H ∧ Qd H) ∨ ((ItzT K a b).go i H ∧ ∃ Nx : Hp → Prop, (∀ H', Nx H' → ∃ m', m' < m ∧ W (i + 1) m' H') ∧ ∀ x H', (ItzT K a b).yld i H x H' → g x (wipe σ vs) H' fun σ2 H2 => wipe σ2 vs = wipe σ vs ∧ tt σ2 H2 fun k H3 =>
        if k = true then te σ2 H3 fun y H4 => ∃ acc, H4 D = some (.lst acc) ∧ acc.length < sizeLine ∧ Nx (upd H4 D (.lst (acc ++ [y]))) else Nx H3) := by
  refine ⟨fun i m H => m = xs.length - i ∧ Pv i H, ⟨_, rfl, h0⟩, ?_⟩
  rintro i m H ⟨rfl, p⟩
  obtain ⟨k1, k2⟩ := hl i H p
  by_cases c : i < xs.length ∧ i < ys.length
  · obtain ⟨x, gx⟩ := get_of c.1
    obtain ⟨y, gy⟩ := get_of c.2
    refine .inr ⟨⟨xs, ys, x, y, k1, k2, gx, gy⟩, Pv (i + 1), fun H' p' => ⟨xs.length - (i + 1), by omega, rfl, p'⟩, fun z H' hy => ?_⟩
    obtain ⟨T, x', y', rfl, hT, rfl, f1, f2⟩ := hy
    have ex : x' = x := Option.some.inj ((f1 _ k1).symm.trans gx)
    have ey : y' = y := Option.some.inj ((f2 _ k2).symm.trans gy)
    subst ex
    subst ey
    exact hs i _ _ T H gx gy p hT
  · have c' : xs.length ≤ i ∨ ys.length ≤ i := by omega
    exact .inl ⟨⟨xs, ys, k1, k2, c'⟩, hd i H p c'⟩
end Loc

set_option Elab.async false
set_option linter.all false
set_option maxRecDepth 100000
namespace Loc
open PySem PySem.Spec PyProof.Rows L2
/-! ### nodes -/
inductive Nd where
  | el (n : Nat)
  | run (b : Nd) (c : Nat)
  | blk (ps : List Nd)
mutual
def dat : Nd → PyData
  | .el n => .int n
  | .run b c => .tuple [.str "run", dat b, .int c]
  | .blk ps => .tuple [.str "block", .tuple (datAll ps)]
def datAll : List Nd → List PyData
  | [] => []
  | n :: r => dat n :: datAll r
end
def Nd.isRun : Nd → Bool
  | .run _ _ => true
  | _ => false
def Nd.isBlk : Nd → Bool
  | .blk _ => true
  | _ => false
def Nd.base : Nd → Nd
  | .run b _ => b
  | n => n
/-- neighbours with unlike bases -/
def Unb : List Nd → Prop
  | a :: b :: r => a.base ≠ b.base ∧ Unb (b :: r)
  | _ => True
mutual
/-- a node of this level -/
def Ok : Nd → Nat → Prop
  | .el n, l => l = 0 ∧ n ≤ 10 ^ 9
  | .run b c, l => 2 ≤ c ∧ c ≤ 10 ^ 60 ∧ b.isRun = false ∧ Ok b l
  | .blk ps, l => 1 ≤ l ∧ 2 ≤ ps.length ∧ ps.length ≤ 3 ∧ OkAll ps (l - 1) ∧ Unb ps
def OkAll : List Nd → Nat → Prop
  | [], _ => True
  | n :: r, l => Ok n l ∧ OkAll r l
end
theorem OkAll.mem : ∀ {ps : List Nd} {l : Nat}, OkAll ps l → ∀ n ∈ ps, Ok n l
  | [], _, _, n, h => nomatch h
  | a :: r, l, h, n, hn => by
    unfold OkAll at h
    rcases List.mem_cons.mp hn with rfl | hn
    · exact h.1
    · exact OkAll.mem h.2 n hn
theorem OkAll.of : ∀ {ps : List Nd} {l : Nat}, (∀ n ∈ ps, Ok n l) → OkAll ps l
  | [], _, _ => by unfold OkAll; trivial
  | a :: r, l, h => by
    unfold OkAll
    exact ⟨h a List.mem_cons_self, OkAll.of fun n hn => h n (List.mem_cons_of_mem _ hn)⟩
theorem datAll_map : ∀ ps : List Nd, datAll ps = ps.map dat
  | [] => by unfold datAll; rfl
  | n :: r => by
    unfold datAll
    rw [datAll_map r]
    rfl
theorem datAll_length (ps : List Nd) : (datAll ps).length = ps.length := by rw [datAll_map, List.length_map]
theorem unlike_sorts : (Str.ofString "run" == Str.ofString "block") = false ∧ (Str.ofString "block" == Str.ofString "run") = false := by
  constructor <;> decide +kernel
theorem eqv_rb (x y z : PyData) : PyData.eqv (.tuple [.str "run", x, y]) (.tuple [.str "block", z]) = false := by
  simp only [PyData.eqv, PyData.eqvAll, unlike_sorts.1, Bool.false_and]
theorem eqv_br (x y z : PyData) : PyData.eqv (.tuple [.str "block", z]) (.tuple [.str "run", x, y]) = false := by
  simp only [PyData.eqv, PyData.eqvAll, unlike_sorts.2, Bool.false_and]
mutual
theorem eqv_dat : ∀ a b : Nd, PyData.eqv (dat a) (dat b) = true ↔ a = b
  | .el n, .el m => by
    simp only [dat, PyData.eqv, beq_iff_eq, Nd.el.injEq]
    omega
  | .el _, .run _ _ => by simp [dat, PyData.eqv]
  | .el _, .blk _ => by simp [dat, PyData.eqv]
  | .run _ _, .el _ => by simp [dat, PyData.eqv]
  | .blk _, .el _ => by simp [dat, PyData.eqv]
  | .run a c, .run b d => by
    have ih := eqv_dat a b
    simp only [dat, PyData.eqv, PyData.eqvAll, beq_self_eq_true, Bool.true_and, Bool.and_true, Bool.and_eq_true, beq_iff_eq, Nd.run.injEq, ih]
    constructor
    · rintro ⟨h1, h2⟩
      exact ⟨h1, by omega⟩
    · rintro ⟨h1, h2⟩
      exact ⟨h1, by omega⟩
  | .run _ _, .blk _ => by simp [dat, eqv_rb]
  | .blk _, .run _ _ => by simp [dat, eqv_br]
  | .blk ps, .blk qs => by
    have ih := eqv_datAll ps qs
    simp only [dat, PyData.eqv, PyData.eqvAll, beq_self_eq_true, Bool.true_and, Bool.and_true, Nd.blk.injEq, ih]
theorem eqv_datAll : ∀ ps qs : List Nd, PyData.eqvAll (datAll ps) (datAll qs) = true ↔ ps = qs
  | [], [] => by simp [datAll, PyData.eqvAll]
  | [], _ :: _ => by simp [datAll, PyData.eqvAll]
  | _ :: _, [] => by simp [datAll, PyData.eqvAll]
  | a :: r, b :: q => by
    have h1 := eqv_dat a b
    have h2 := eqv_datAll r q
    simp only [datAll, PyData.eqvAll, Bool.and_eq_true, h1, h2, List.cons.injEq]
end
theorem eqv_no {a b : Nd} (h : a ≠ b) : PyData.eqv (dat a) (dat b) = false := by
  cases e : PyData.eqv (dat a) (dat b) with
  | false => rfl
  | true => exact absurd ((eqv_dat a b).mp e) h
theorem eqv_yes {a b : Nd} (h : a = b) : PyData.eqv (dat a) (dat b) = true := (eqv_dat a b).mpr h
theorem str_run_ok : PyData.canLay0 (.str "run") = true ∧ PyData.canLay0 (.str "block") = true := by
  constructor <;> decide +kernel
mutual
theorem canLay_dat : ∀ a : Nd, PyData.canLay0 (dat a) = true
  | .el n => by simp [dat, PyData.canLay0]
  | .run b c => by
    have h := canLay_dat b
    simp only [dat, PyData.canLay0, PyData.canLayAll0, h, str_run_ok.1, Bool.and_true]
    exact str_run_ok.1
  | .blk ps => by
    have h := canLay_datAll ps
    simp only [dat, PyData.canLay0, PyData.canLayAll0, h, Bool.and_true]
    exact str_run_ok.2
theorem canLay_datAll : ∀ ps : List Nd, PyData.canLayAll0 (datAll ps) = true
  | [] => by simp [datAll, PyData.canLayAll0]
  | a :: r => by
    have h1 := canLay_dat a
    have h2 := canLay_datAll r
    simp only [datAll, PyData.canLayAll0, h1, h2, Bool.and_true]
end
mutual
theorem depth_dat : ∀ (a : Nd) (l : Nat), Ok a l → (dat a).depth ≤ 3 * l + (if a.isRun then 1 else 0)
  | .el n, l, h => by simp [dat, PyData.depth]
  | .run b c, l, h => by
    unfold Ok at h
    have ih := depth_dat b l h.2.2.2
    rw [h.2.2.1] at ih
    simp only [dat, PyData.depth, PyData.depthAll, Nd.isRun, if_true]
    simp at ih
    omega
  | .blk ps, l, h => by
    unfold Ok at h
    have ih := depth_datAll ps (l - 1) h.2.2.2.1
    simp only [dat, PyData.depth, PyData.depthAll, Nd.isRun]
    simp
    omega
theorem depth_datAll : ∀ (ps : List Nd) (l : Nat), OkAll ps l → PyData.depthAll (datAll ps) ≤ 3 * l + 1
  | [], l, _ => by simp [datAll, PyData.depthAll]
  | a :: r, l, h => by
    unfold OkAll at h
    have h1 := depth_dat a l h.1
    have h2 := depth_datAll r l h.2
    simp only [datAll, PyData.depthAll]
    split at h1 <;> omega
end
theorem depth_le {a : Nd} {l : Nat} (h : Ok a l) : (dat a).depth ≤ 3 * l + 1 := by
  have := depth_dat a l h
  split at this <;> omega
theorem shaped_dat {a : Nd} {l : Nat} (h : Ok a l) (hl : l ≤ 20) : SeqAt.shaped (dat a) = true := by
  have d := depth_le h
  unfold SeqAt.shaped
  rw [Bool.and_eq_true]
  exact ⟨canLay_dat a, decide_eq_true (by omega)⟩
theorem shaped_all {ps : List Nd} {l : Nat} (h : OkAll ps l) (hl : l ≤ 20) : SeqAt.shaped (.list (datAll ps)) = true ∧ SeqAt.shaped (.tuple (datAll ps)) = true := by
  have d := depth_datAll ps l h
  unfold SeqAt.shaped
  simp only [Bool.and_eq_true]
  exact ⟨⟨by simpa [PyData.canLay0] using canLay_datAll ps, decide_eq_true (by simp only [PyData.depth]; omega)⟩, by simpa [PyData.canLay0] using canLay_datAll ps, decide_eq_true (by simp only [PyData.depth]; omega)⟩
/-! ### nodes that a heap bears -/
abbrev NdV (K : PySem.W.Frag) (H : Hp) (v : V) (a : Nd) : Prop := Dp K H v (dat a)
abbrev NdsV (K : PySem.W.Frag) (H : Hp) (vs : List V) (ps : List Nd) : Prop := DpAll K H vs (datAll ps)
section
variable {K : PySem.W.Frag} {H H' : Hp}
theorem NdV.el {v : V} {n : Nat} (h : NdV K H v (.el n)) : v = .int n := by
  unfold NdV dat at h
  cases h
  rfl
theorem NdV.run {v : V} {b : Nd} {c : Nat} (h : NdV K H v (.run b c)) : ∃ a v2, v = .ref a ∧ SqT K H a [.str "run", v2, .int c] ∧ NdV K H v2 b := by
  unfold NdV dat at h
  cases h with
  | tup h1 h2 =>
    cases h2 with
    | cons k1 h2 =>
      cases h2 with
      | cons k2 h2 =>
        cases h2 with
        | cons k3 h2 =>
          cases h2
          cases k1
          cases k3
          exact ⟨_, _, rfl, h1, k2⟩
theorem NdV.blk {v : V} {ps : List Nd} (h : NdV K H v (.blk ps)) : ∃ a b vs, v = .ref a ∧ SqT K H a [.str "block", .ref b] ∧ SqT K H b vs ∧ NdsV K H vs ps := by
  unfold NdV dat at h
  cases h with
  | tup h1 h2 =>
    cases h2 with
    | cons k1 h2 =>
      cases h2 with
      | cons k2 h2 =>
        cases h2
        cases k1
        cases k2 with
        | tup k3 k4 => exact ⟨_, _, _, rfl, h1, k3, k4⟩
theorem NdV.ofEl (n : Nat) : NdV K H (.int n) (.el n) := by
  unfold NdV dat
  exact .int _
theorem NdV.ofRun {a : Addr} {v2 : V} {b : Nd} {c : Nat} (h : SqT K H a [.str "run", v2, .int c]) (k : NdV K H v2 b) : NdV K H (.ref a) (.run b c) := by
  unfold NdV dat
  exact .tup h (.cons (.str _) (.cons k (.cons (.int _) .nil)))
theorem NdV.ofBlk {a b : Addr} {vs : List V} {ps : List Nd} (h : SqT K H a [.str "block", .ref b]) (k : SqT K H b vs) (q : NdsV K H vs ps) : NdV K H (.ref a) (.blk ps) := by
  unfold NdV dat
  exact .tup h (.cons (.str _) (.cons (.tup k q) .nil))
theorem NdsV.nil : NdsV K H [] [] := by
  unfold NdsV datAll
  exact .nil
theorem NdsV.cons {v : V} {vs : List V} {a : Nd} {ps : List Nd} (h : NdV K H v a) (k : NdsV K H vs ps) : NdsV K H (v :: vs) (a :: ps) := by
  unfold NdsV datAll
  exact .cons h k
theorem NdsV.inv {vs : List V} {a : Nd} {ps : List Nd} (h : NdsV K H vs (a :: ps)) : ∃ v r, vs = v :: r ∧ NdV K H v a ∧ NdsV K H r ps := by
  unfold NdsV datAll at h
  cases h with
  | cons h1 h2 => exact ⟨_, _, rfl, h1, h2⟩
theorem NdsV.inv0 {vs : List V} (h : NdsV K H vs []) : vs = [] := by
  unfold NdsV datAll at h
  cases h
  rfl
theorem NdsV.len : ∀ {ps : List Nd} {vs : List V}, NdsV K H vs ps → vs.length = ps.length
  | [], vs, h => by rw [h.inv0]; rfl
  | a :: r, vs, h => by
    obtain ⟨v, q, rfl, _, k⟩ := h.inv
    rw [List.length_cons, List.length_cons, NdsV.len k]
theorem NdsV.get : ∀ {ps : List Nd} {vs : List V} {i : Nat} {v : V}, NdsV K H vs ps → vs[i]? = some v → ∃ a, ps[i]? = some a ∧ NdV K H v a
  | [], vs, i, v, h, e => by rw [h.inv0] at e; simp at e
  | a :: r, vs, i, v, h, e => by
    obtain ⟨u, q, rfl, k1, k⟩ := h.inv
    cases i with
    | zero =>
      simp at e
      subst e
      exact ⟨a, rfl, k1⟩
    | succ i =>
      obtain ⟨b, h1, h2⟩ := NdsV.get (i := i) k (by simpa using e)
      exact ⟨b, by simpa using h1, h2⟩
theorem NdsV.at {ps : List Nd} {vs : List V} {i : Nat} {a : Nd} (h : NdsV K H vs ps) (e : ps[i]? = some a) : ∃ v, vs[i]? = some v ∧ NdV K H v a := by
  have hi := (List.getElem?_eq_some_iff.mp e).1
  obtain ⟨v, hv⟩ := get_of (l := vs) (i := i) (by rw [h.len]; exact hi)
  obtain ⟨b, h1, h2⟩ := h.get hv
  rw [e] at h1
  cases h1
  exact ⟨v, hv, h2⟩
theorem NdsV.app : ∀ {ps qs : List Nd} {vs us : List V}, NdsV K H vs ps → NdsV K H us qs → NdsV K H (vs ++ us) (ps ++ qs)
  | [], qs, vs, us, h, k => by rw [h.inv0]; exact k
  | a :: r, qs, vs, us, h, k => by
    obtain ⟨v, q, rfl, k1, k2⟩ := h.inv
    exact NdsV.cons k1 (NdsV.app k2 k)
theorem NdsV.one {v : V} {a : Nd} (h : NdV K H v a) : NdsV K H [v] [a] := NdsV.cons h NdsV.nil
theorem NdsV.last {ps : List Nd} {vs : List V} {z : Nd} (h : NdsV K H vs (ps ++ [z])) : ∃ u, atI vs (-1) = some u ∧ NdV K H u z := by
  have hl := h.len
  rw [List.length_append] at hl
  simp at hl
  rcases List.eq_nil_or_concat vs with rfl | ⟨init, u, rfl⟩
  · simp at hl
  · rw [List.concat_eq_append] at *
    refine ⟨u, atI_last _ _, ?_⟩
    have hi : init.length = ps.length := by simpa using hl
    obtain ⟨a, h1, h2⟩ := h.get (i := init.length) (v := u) (by rw [List.getElem?_append_right (Nat.le_refl _)]; simp)
    rw [hi, List.getElem?_append_right (Nat.le_refl _)] at h1
    have : a = z := by simpa using h1.symm
    rw [← this]
    exact h2
/-- node data stand while tuples stand -/
def Tups (K : PySem.W.Frag) (H H' : Hp) : Prop := ∀ a xs, SqT K H a xs → SqT K H' a xs
theorem Tups.of (e : Same H H') : Tups K H H' := fun _ _ h => sameT e h
theorem Tups.trans {H2 : Hp} (e : Tups K H H') (k : Tups K H' H2) : Tups K H H2 := fun a xs h => k a xs (e a xs h)
theorem Tups.refl : Tups K H H := fun _ _ h => h
theorem But.tups {p : Addr} {ys : List V} (e : But p H H') (h : H p = some (.lst ys)) : Tups K H H' := fun _ _ k => e.sqt h k
theorem But.tupsP {p : Addr} {c : Nat} (e : But p H H') (h : Pot H p c) : Tups K H H' := let ⟨_, k⟩ := h.ls; e.tups k
mutual
theorem NdV.up (e : Tups K H H') : ∀ {a : Nd} {v : V}, NdV K H v a → NdV K H' v a
  | .el n, v, h => by rw [h.el]; exact .ofEl n
  | .run b c, v, h => by
    obtain ⟨a, v2, rfl, h1, h2⟩ := h.run
    exact .ofRun (e _ _ h1) (NdV.up e h2)
  | .blk ps, v, h => by
    obtain ⟨a, b, vs, rfl, h1, h2, h3⟩ := h.blk
    exact .ofBlk (e _ _ h1) (e _ _ h2) (NdsV.up e h3)
theorem NdsV.up (e : Tups K H H') : ∀ {ps : List Nd} {vs : List V}, NdsV K H vs ps → NdsV K H' vs ps
  | [], vs, h => by rw [h.inv0]; exact .nil
  | a :: r, vs, h => by
    obtain ⟨v, q, rfl, k1, k2⟩ := h.inv
    exact NdsV.cons (NdV.up e k1) (NdsV.up e k2)
end
theorem SqT.ty {a : Addr} {xs : List V} (h : SqT K H a xs) : TyX K H (.ref a) (.type "tuple") := by
  rcases h with (h | ⟨o, h⟩) | ⟨o, its, n, h1, h2, _⟩
  · exact .base (.tup h)
  · exact .fTuple h
  · exact .kTuple h1 h2
end
end Loc

set_option Elab.async false
set_option linter.all false
set_option maxRecDepth 100000
namespace Loc
open PySem PySem.Spec PyProof.Rows L2
def Smalls (B : Nat) (xs : List V) : Prop := ∀ x ∈ xs, ∃ n : Nat, x = .int n ∧ n ≤ B
theorem Smalls.nil {B : Nat} : Smalls B [] := fun x h => nomatch h
theorem Smalls.cons {B n : Nat} {x : V} {xs : List V} (e : x = .int n) (h : n ≤ B) (t : Smalls B xs) : Smalls B (x :: xs) := fun y hy => by
  rcases List.mem_cons.mp hy with rfl | hy
  · exact ⟨n, e, h⟩
  · exact t y hy
theorem Smalls.at {B : Nat} {xs : List V} {j : Nat} {x : V} (s : Smalls B xs) (h : xs[j]? = some x) : ∃ n : Nat, x = .int n ∧ n ≤ B := s x (List.mem_of_getElem? h)
/-! the two nodes of a level that are at hand -/
def tw : Nat → Nd × Nd
  | 0 => (.el 5, .el 6)
  | l + 1 => (.blk [(tw l).1, (tw l).2], .blk [(tw l).2, (tw l).1])
theorem tw_ok : ∀ l : Nat, Ok (tw l).1 l ∧ Ok (tw l).2 l ∧ (tw l).1 ≠ (tw l).2 ∧ (tw l).1.isRun = false ∧ (tw l).2.isRun = false
  | 0 => by
    refine ⟨?_, ?_, ?_, rfl, rfl⟩
    · unfold tw Ok; exact ⟨rfl, by decide⟩
    · unfold tw Ok; exact ⟨rfl, by decide⟩
    · unfold tw; intro h; injection h with h; exact absurd h (by decide)
  | l + 1 => by
    obtain ⟨h1, h2, h3, h4, h5⟩ := tw_ok l
    have b1 : (tw l).1.base = (tw l).1 := by
      cases e : (tw l).1 with
      | run b c => rw [e] at h4; cases h4
      | el n => rfl
      | blk ps => rfl
    have b2 : (tw l).2.base = (tw l).2 := by
      cases e : (tw l).2 with
      | run b c => rw [e] at h5; cases h5
      | el n => rfl
      | blk ps => rfl
    refine ⟨?_, ?_, ?_, rfl, rfl⟩
    · show Ok (.blk [(tw l).1, (tw l).2]) (l + 1)
      unfold Ok
      exact ⟨by omega, Nat.le_refl 2, (show 2 ≤ 3 from by decide), OkAll.of (fun n hn => by
        rcases List.mem_cons.mp hn with rfl | hn
        · exact h1
        · rw [List.mem_singleton.mp hn]; exact h2), ⟨by rw [b1, b2]; exact h3, trivial⟩⟩
    · show Ok (.blk [(tw l).2, (tw l).1]) (l + 1)
      unfold Ok
      exact ⟨by omega, Nat.le_refl 2, (show 2 ≤ 3 from by decide), OkAll.of (fun n hn => by
        rcases List.mem_cons.mp hn with rfl | hn
        · exact h2
        · rw [List.mem_singleton.mp hn]; exact h1), ⟨by rw [b1, b2]; exact h3.symm, trivial⟩⟩
    · show Nd.blk [(tw l).1, (tw l).2] ≠ Nd.blk [(tw l).2, (tw l).1]
      intro h
      injection h with h
      injection h with h
      exact h3 h
theorem base_of_no {n : Nd} (h : n.isRun = false) : n.base = n := by
  cases n with
  | run b c => cases h
  | el n => rfl
  | blk ps => rfl
theorem Ok.base {n : Nd} {l : Nat} (h : Ok n l) : Ok n.base l ∧ n.base.isRun = false := by
  cases n with
  | run b c =>
    unfold Ok at h
    exact ⟨h.2.2.2, h.2.2.1⟩
  | el n => exact ⟨h, rfl⟩
  | blk ps => exact ⟨h, rfl⟩
theorem unb_app : ∀ {ns : List Nd} {m : Nd}, Unb ns → (∀ x, ns.getLast? = some x → x.base ≠ m.base) → Unb (ns ++ [m])
  | [], _, _, _ => trivial
  | [a], m, _, h => ⟨h a rfl, trivial⟩
  | a :: b :: r, m, u, h => ⟨u.1, unb_app (ns := b :: r) u.2 fun x e => h x (by rw [List.getLast?_cons_cons]; exact e)⟩
/-- draws for one node of a level -/
def cost : Nat → Nat
  | 0 => 8
  | l + 1 => 4 * cost l
theorem cost_pos : ∀ l : Nat, 8 ≤ cost l
  | 0 => Nat.le_refl _
  | l + 1 => by
    have := cost_pos l
    unfold cost
    omega
theorem eqv_emptyN (ns : List Nd) : PyData.eqv (.list (datAll ns)) (.list []) = ns.isEmpty := by
  cases ns <;> simp [PyData.eqv, PyData.eqvAll, datAll]
theorem shaped_nil : SeqAt.shaped (.list []) = true := (shaped_ints []).1

def spGround (K : PySem.W.Frag) : Sp := fun vs H Q _ => ∃ v n, vs = [v] ∧ NdV K H v n ∧ ∀ v', NdV K H v' n.base → Q v' H
def spLeaf (K : PySem.W.Frag) : Sp := fun vs H Q _ => ∃ p c, vs = [.ref p] ∧ Pot H p c ∧ c < 900000 ∧ ∀ v n H', But p H H' → Pot H' p (c + 6) → NdV K H' v n → Ok n 0 → Q v H'
def spTwins (K : PySem.W.Frag) (m : Nat) : Sp := fun vs H Q _ => ∃ (z : Int) (l : Nat), vs = [.int z] ∧ z = l ∧ l < m ∧
  ∀ H' a v1 v2, Same H H' → H' a = some (.tup [v1, v2]) → NdV K H' v1 (tw l).1 → NdV K H' v2 (tw l).2 → Q (.ref a) H'
def spUnlike (K : PySem.W.Frag) (m : Nat) : Sp := fun vs H Q _ => ∃ (v : V) (n : Nd) (l : Nat), vs = [v, .int l] ∧ l < m ∧ l ≤ 20 ∧ NdV K H v n ∧ Ok n l ∧
  ∀ H' v' n', Same H H' → NdV K H' v' n' → Ok n' l → n'.base ≠ n.base → Q v' H'
def spRow (K : PySem.W.Frag) (m : Nat) : Sp := fun vs H Q _ => ∃ (p : Addr) (z : Int) (l many c : Nat), vs = [.ref p, .int z, .int many] ∧ z = l ∧ l < m ∧ l ≤ 20 ∧ many ≤ 10 ∧ Pot H p c ∧ c + 20 * cost l < 900000 ∧
  ∀ H' a vs' ns, But p H H' → H a = none → H' a = some (.lst vs') → NdsV K H' vs' ns → OkAll ns l → Unb ns → ns.length = many → Pot H' p (c + many * cost l) → Q (.ref a) H'
def spBlock (K : PySem.W.Frag) (m : Nat) : Sp := fun vs H Q _ => ∃ (p : Addr) (l c : Nat), vs = [.ref p, .int l] ∧ 1 ≤ l ∧ l < m ∧ l ≤ 20 ∧ Pot H p c ∧ c + 10 * cost l < 900000 ∧
  ∀ H' v n, But p H H' → NdV K H' v n → Ok n l → Pot H' p (c + cost l) → Q v H'
end Loc

set_option Elab.async false
set_option linter.all false
set_option maxRecDepth 100000
namespace Loc
open PySem PySem.Spec PyProof.Rows L2
/-! ### repr of nodes -/
mutual
theorem noDict_dat : ∀ a : Nd, PyData.hasDict (dat a) = false
  | .el n => by simp [dat, PyData.hasDict]
  | .run b c => by simp [dat, PyData.hasDict, PyData.hasDictAll, noDict_dat b]
  | .blk ps => by simp [dat, PyData.hasDict, PyData.hasDictAll, noDict_datAll ps]
theorem noDict_datAll : ∀ ps : List Nd, PyData.hasDictAll (datAll ps) = false
  | [] => by simp [datAll, PyData.hasDictAll]
  | a :: r => by simp [datAll, PyData.hasDictAll, noDict_dat a, noDict_datAll r]
end
theorem log60 {c : Nat} (h : c ≤ 10 ^ 60) : ((c : Int)).natAbs.log2 < 1920 := log_small (Nat.lt_of_le_of_lt h (by decide +kernel))
mutual
theorem showable_dat : ∀ (a : Nd) (l : Nat), Ok a l → PyData.showable (dat a) = true
  | .el n, l, h => by
    unfold Ok at h
    have := log60 (c := n) (Nat.le_trans h.2 (by decide +kernel))
    simpa [dat, PyData.showable] using this
  | .run b c, l, h => by
    unfold Ok at h
    have h1 := log60 h.2.1
    have h2 := showable_dat b l h.2.2.2
    simp only [dat, PyData.showable, PyData.showableAll, h2, Bool.true_and, Bool.and_true]
    exact decide_eq_true h1
  | .blk ps, l, h => by
    unfold Ok at h
    have h2 := showable_datAll ps (l - 1) h.2.2.2.1
    simp only [dat, PyData.showable, PyData.showableAll, h2, Bool.true_and, Bool.and_true]
theorem showable_datAll : ∀ (ps : List Nd) (l : Nat), OkAll ps l → PyData.showableAll (datAll ps) = true
  | [], l, _ => by simp [datAll, PyData.showableAll]
  | a :: r, l, h => by
    unfold OkAll at h
    simp [datAll, PyData.showableAll, showable_dat a l h.1, showable_datAll r l h.2]
end
theorem repr_sorts : (reprText "run").length = 5 ∧ (reprText "block").length = 7 := by
  constructor <;> decide +kernel
theorem shown_nat {c k : Nat} (hk : 0 < k) (h : c < 10 ^ k) : (PyData.shown (.int (c : Int))).length ≤ k := by
  rw [PyData.shown_int]
  refine toString_length_le (Int.natCast_nonneg _) hk ?_
  have := Int.ofNat_lt.mpr h
  have e : ((10 ^ k : Nat) : Int) = (10 : Int) ^ k := by simp
  rw [← e]
  exact this
/-- signs of a node of a level -/
def wide : Nat → Nat
  | 0 => 100
  | l + 1 => 3 * wide l + 110
mutual
theorem shown_dat : ∀ (a : Nd) (l : Nat), Ok a l → (PyData.shown (dat a)).length + (if a.isRun then 0 else 80) ≤ wide l
  | .el n, l, h => by
    unfold Ok at h
    obtain ⟨rfl, hn⟩ := h
    have := shown_nat (c := n) (k := 10) (by decide) (Nat.lt_of_le_of_lt hn (by decide))
    simp only [dat, Nd.isRun, wide]
    simp
    omega
  | .run b c, l, h => by
    unfold Ok at h
    have ih := shown_dat b l h.2.2.2
    rw [h.2.2.1] at ih
    have h1 := shown_nat (c := c) (k := 61) (by decide) (Nat.lt_of_le_of_lt h.2.1 (by decide +kernel))
    have t := tupleText_len_le [PyData.shown (.str "run"), PyData.shown (dat b), PyData.shown (.int c)]
    have e : (PyData.shown (.str "run")).length = 5 := by rw [PyData.shown_str]; exact repr_sorts.1
    simp only [List.map_cons, List.map_nil, List.sum_cons, List.sum_nil, List.length_cons, List.length_nil, e] at t
    simp only [dat, Nd.isRun, PyData.shown, PyData.shownAll, if_true, Bool.false_eq_true, if_false, Nat.add_zero] at ih t h1 ⊢
    omega
  | .blk ps, l, h => by
    unfold Ok at h
    obtain ⟨hl, h2, h3, h4, _⟩ := h
    obtain ⟨j, rfl⟩ : ∃ j, l = j + 1 := ⟨l - 1, by omega⟩
    have ih := shown_datAll ps j h4
    have t := tupleText_len_le (PyData.shownAll (datAll ps))
    rw [PyData.shownAll_length, datAll_length] at t
    have t2 := tupleText_len_le [PyData.shown (.str "block"), PyData.shown (.tuple (datAll ps))]
    have e : (PyData.shown (.str "block")).length = 7 := by rw [PyData.shown_str]; exact repr_sorts.2
    simp only [List.map_cons, List.map_nil, List.sum_cons, List.sum_nil, List.length_cons, List.length_nil, e] at t2
    have m : ps.length * wide j ≤ 3 * wide j := Nat.mul_le_mul_right _ h3
    simp only [dat, Nd.isRun, PyData.shown, PyData.shownAll, wide] at t t2 ⊢
    simp
    omega
theorem shown_datAll : ∀ (ps : List Nd) (l : Nat), OkAll ps l → ((PyData.shownAll (datAll ps)).map (·.length)).sum ≤ ps.length * wide l
  | [], l, _ => by simp [datAll, PyData.shownAll]
  | a :: r, l, h => by
    unfold OkAll at h
    have h1 := shown_dat a l h.1
    have h2 := shown_datAll r l h.2
    simp only [datAll, PyData.shownAll, List.map_cons, List.sum_cons, List.length_cons]
    rw [Nat.add_mul]
    omega
end
/-- what repr asks of a tuple of nodes -/
theorem rep_nodes {K : PySem.W.Frag} {H : Hp} {a : Addr} {us : List V} {ns : List Nd} {l : Nat} {Q : VK} (hS : SqT K H a us) (hn : NdsV K H us ns) (ok : OkAll ns l) (hl : l ≤ 20) (hz : ns.length * wide l + 2 * ns.length + 3 ≤ sizeLine)
    (q : Q (.str (PyData.shown (.tuple (datAll ns)))) H) : rRep K [.ref a] H Q := by
  have d := depth_datAll ns l ok
  refine ⟨a, .tuple (datAll ns), rfl, .tup hS hn, ?_, ?_, ?_, ?_, q⟩
  · show PyData.showableAll _ = true
    exact showable_datAll ns l ok
  · show PyData.hasDictAll _ = false
    exact noDict_datAll ns
  · simp only [PyData.depth]
    omega
  · show (tupleText _).length ≤ sizeLine
    have t := tupleText_len_le (PyData.shownAll (datAll ns))
    have s := shown_datAll ns l ok
    rw [PyData.shownAll_length, datAll_length] at t
    omega
/-! ### making runs -/
noncomputable section
open Classical
def stepG (acc : List (Nd × Nat)) (n : Nd) : List (Nd × Nat) :=
  match acc.getLast? with
  | some (m, c) => if m = n then acc.dropLast ++ [(n, c + 1)] else acc ++ [(n, 1)]
  | none => acc ++ [(n, 1)]
def grp (ns : List Nd) : List (Nd × Nat) := ns.foldl stepG []
theorem grp_app (ns : List Nd) (n : Nd) : grp (ns ++ [n]) = stepG (grp ns) n := by
  unfold grp
  rw [List.foldl_append]
  rfl
theorem stepG_last (acc : List (Nd × Nat)) (n : Nd) : ∃ i c, stepG acc n = i ++ [(n, c)] := by
  unfold stepG
  split
  · split
    · exact ⟨_, _, rfl⟩
    · exact ⟨_, _, rfl⟩
  · exact ⟨_, _, rfl⟩
theorem stepG_eq {i : List (Nd × Nat)} {n : Nd} {c : Nat} : stepG (i ++ [(n, c)]) n = i ++ [(n, c + 1)] := by
  unfold stepG
  rw [List.getLast?_append]
  simp
theorem stepG_ne {acc : List (Nd × Nat)} {n : Nd} (h : ∀ m c, acc.getLast? = some (m, c) → m ≠ n) : stepG acc n = acc ++ [(n, 1)] := by
  unfold stepG
  split
  · rename_i m c e
    rw [if_neg (h m c e)]
  · rfl
/-- the last group's node is the last node -/
theorem grp_last (ns : List Nd) (n : Nd) (c : Nat) (h : (grp ns).getLast? = some (n, c)) : ns.getLast? = some n := by
  rcases List.eq_nil_or_concat ns with rfl | ⟨init, z, rfl⟩
  · unfold grp at h
    simp at h
  · rw [List.concat_eq_append] at *
    rw [grp_app] at h
    obtain ⟨i, d, e⟩ := stepG_last (grp init) z
    rw [e, List.getLast?_append] at h
    simp at h
    rw [List.getLast?_append]
    simp [h.1]
theorem grp_rep (ns : List Nd) (a : Nd) (h : ns.getLast? ≠ some a) : ∀ k : Nat, grp (ns ++ List.replicate (k + 1) a) = grp ns ++ [(a, k + 1)]
  | 0 => by
    show grp (ns ++ [a]) = _
    rw [grp_app]
    refine stepG_ne fun m c e z => h ?_
    rw [grp_last ns m c e, z]
  | k + 1 => by
    rw [List.replicate_succ', ← List.append_assoc, grp_app, grp_rep ns a h k, stepG_eq]
def mkRun (p : Nd × Nat) : Nd := if p.2 = 1 then p.1 else .run p.1 p.2
def mkRuns (ns : List Nd) : List Nd := (grp ns).map mkRun
theorem stepG_len (acc : List (Nd × Nat)) (n : Nd) : (stepG acc n).length ≤ acc.length + 1 := by
  unfold stepG
  split
  · split
    · rename_i e _
      have := List.length_pos_iff.mpr (show acc ≠ [] from fun z => by rw [z] at e; cases e)
      simp
      try omega
    · simp
  · simp
theorem grp_foot (ns : List Nd) : ∀ p ∈ grp ns, p.1 ∈ ns ∧ 1 ≤ p.2 ∧ p.2 ≤ ns.length := by
  rcases h : ns.reverse with _ | ⟨z, r⟩
  all_goals skip
  · have : ns = [] := by simpa using h
    subst this
    unfold grp
    intro p hp
    exact nomatch hp
  · have e : ns = r.reverse ++ [z] := by
      have := congrArg List.reverse h
      simpa using this
    rw [e]
    clear h e
    generalize r.reverse = xs
    clear r
    suffices hh : ∀ (k : Nat) (xs : List Nd), xs.length = k → ∀ p ∈ grp xs, p.1 ∈ xs ∧ 1 ≤ p.2 ∧ p.2 ≤ xs.length from hh _ _ rfl
    intro k
    induction k with
    | zero =>
      intro xs hx p hp
      rw [List.eq_nil_of_length_eq_zero hx] at hp
      unfold grp at hp
      exact nomatch hp
    | succ k ih =>
      intro xs hx p hp
      rcases List.eq_nil_or_concat xs with rfl | ⟨i, y, rfl⟩
      · simp at hx
      · rw [List.concat_eq_append] at *
        have hi : i.length = k := by simpa using hx
        have g := ih i hi
        rw [grp_app] at hp
        unfold stepG at hp
        split at hp
        · rename_i m c e
          have gm := g (m, c) (List.mem_of_getLast? e)
          split at hp
          · rcases List.mem_append.mp hp with hp | hp
            · have := g p ((List.dropLast_sublist _).subset hp)
              simp
              exact ⟨.inl this.1, this.2.1, by omega⟩
            · rw [List.mem_singleton.mp hp]
              simp
              simp at gm
              omega
          · rcases List.mem_append.mp hp with hp | hp
            · have := g p hp
              simp
              exact ⟨.inl this.1, this.2.1, by omega⟩
            · rw [List.mem_singleton.mp hp]
              simp
        · rcases List.mem_append.mp hp with hp | hp
          · have := g p hp
            simp
            exact ⟨.inl this.1, this.2.1, by omega⟩
          · rw [List.mem_singleton.mp hp]
            simp
theorem grp_len (ns : List Nd) : (grp ns).length ≤ ns.length := by
  suffices hh : ∀ (xs : List Nd) (acc : List (Nd × Nat)), (xs.foldl stepG acc).length ≤ acc.length + xs.length from by
    have := hh ns []
    show (ns.foldl stepG []).length ≤ _
    simpa using this
  intro xs
  induction xs with
  | nil => intro acc; simp
  | cons x r ih =>
    intro acc
    have h1 := ih (stepG acc x)
    have h2 := stepG_len acc x
    rw [List.foldl_cons, List.length_cons]
    omega
theorem mkRuns_ok {ns : List Nd} {l : Nat} (h : OkAll ns l) (nr : ∀ n ∈ ns, n.isRun = false) (hz : ns.length ≤ 10 ^ 60) : OkAll (mkRuns ns) l := OkAll.of fun n hn => by
  obtain ⟨p, hp, rfl⟩ := List.mem_map.mp hn
  obtain ⟨h1, h2, h3⟩ := grp_foot ns p hp
  unfold mkRun
  split
  · exact h.mem _ h1
  · unfold Ok
    exact ⟨by omega, Nat.le_trans h3 hz, nr _ h1, h.mem _ h1⟩
end
end Loc
namespace Loc
open PySem PySem.Spec PyProof.Rows L2
/-! pairs of a node and a count -/
def pdat (p : Nd × Nat) : PyData := .tuple [dat p.1, .int (p.2 : Int)]
abbrev PrsV (K : PySem.W.Frag) (H : Hp) (vs : List V) (ps : List (Nd × Nat)) : Prop := DpAll K H vs (ps.map pdat)
section
variable {K : PySem.W.Frag} {H H' : Hp}
theorem PrsV.one {a : Addr} {v : V} {p : Nd × Nat} (h : SqT K H a [v, .int (p.2 : Int)]) (k : NdV K H v p.1) : PrsV K H [.ref a] [p] := .cons (.tup h (.cons k (.cons (.int _) .nil))) .nil
theorem PrsV.inv {v : V} {p : Nd × Nat} (h : Dp K H v (pdat p)) : ∃ a u, v = .ref a ∧ SqT K H a [u, .int (p.2 : Int)] ∧ NdV K H u p.1 := by
  unfold pdat at h
  cases h with
  | tup h1 h2 =>
    cases h2 with
    | cons k1 h2 =>
      cases h2 with
      | cons k2 h2 =>
        cases h2
        cases k2
        exact ⟨_, _, rfl, h1, k1⟩
theorem DpAll.len : ∀ {ds : List PyData} {vs : List V}, DpAll K H vs ds → vs.length = ds.length
  | _, _, .nil => rfl
  | _, _, .cons _ t => by rw [List.length_cons, List.length_cons, DpAll.len t]
theorem DpAll.app : ∀ {ds es : List PyData} {vs us : List V}, DpAll K H vs ds → DpAll K H us es → DpAll K H (vs ++ us) (ds ++ es)
  | _, _, _, _, .nil, k => k
  | _, _, _, _, .cons h t, k => .cons h (DpAll.app t k)
theorem DpAll.split : ∀ {ds es : List PyData} {vs : List V}, DpAll K H vs (ds ++ es) → ∃ us ws, vs = us ++ ws ∧ DpAll K H us ds ∧ DpAll K H ws es
  | [], es, vs, h => ⟨[], vs, rfl, .nil, h⟩
  | d :: ds, es, _, .cons h t => by
    obtain ⟨us, ws, rfl, h1, h2⟩ := DpAll.split (ds := ds) (es := es) t
    exact ⟨_ :: us, ws, rfl, .cons h h1, h2⟩
theorem DpAll.get : ∀ {ds : List PyData} {vs : List V} {i : Nat} {v : V}, DpAll K H vs ds → vs[i]? = some v → ∃ d, ds[i]? = some d ∧ Dp K H v d
  | _, _, _, _, .nil, e => by simp at e
  | _, _, 0, _, .cons h t, e => by
    simp at e
    subst e
    exact ⟨_, rfl, h⟩
  | _, _, i + 1, _, .cons h t, e => by
    obtain ⟨d, h1, h2⟩ := DpAll.get (i := i) t (by simpa using e)
    exact ⟨d, by simpa using h1, h2⟩
theorem Pr.up (e : Tups K H H') {v : V} {p : Nd × Nat} (h : Dp K H v (pdat p)) : Dp K H' v (pdat p) := by
  obtain ⟨a, u, rfl, h1, h2⟩ := PrsV.inv h
  exact .tup (e _ _ h1) (.cons (h2.up e) (.cons (.int _) .nil))
theorem PrsV.up (e : Tups K H H') : ∀ {ps : List (Nd × Nat)} {vs : List V}, PrsV K H vs ps → PrsV K H' vs ps
  | [], _, h => by
    cases h
    exact .nil
  | p :: r, _, h => by
    cases h with
    | cons h1 h2 => exact .cons (Pr.up e h1) (PrsV.up e h2)
theorem canLay_prs (l : Nat) : ∀ ps : List (Nd × Nat), (∀ p ∈ ps, Ok p.1 l) → PyData.canLayAll0 (ps.map pdat) = true ∧ PyData.depthAll (ps.map pdat) ≤ 3 * l + 2
  | [], _ => by simp [PyData.canLayAll0, PyData.depthAll]
  | p :: r, h => by
    have h1 := canLay_dat p.1
    have h2 := depth_le (h p List.mem_cons_self)
    have h3 := canLay_prs l r fun q hq => h q (List.mem_cons_of_mem _ hq)
    constructor
    · simp only [List.map_cons, PyData.canLayAll0, pdat, PyData.canLay0, h1, Bool.true_and]
      exact h3.1
    · have := h3.2
      simp only [List.map_cons, PyData.depthAll, pdat, PyData.depth]
      omega
theorem shaped_prs {l : Nat} {ps : List (Nd × Nat)} (h : ∀ p ∈ ps, Ok p.1 l) (hl : l ≤ 20) : SeqAt.shaped (.list (ps.map pdat)) = true := by
  obtain ⟨h1, h2⟩ := canLay_prs l ps h
  unfold SeqAt.shaped
  rw [Bool.and_eq_true]
  exact ⟨by simpa [PyData.canLay0] using h1, decide_eq_true (by simp only [PyData.depth]; omega)⟩
theorem eqv_emptyP (ps : List (Nd × Nat)) : PyData.eqv (.list (ps.map pdat)) (.list []) = ps.isEmpty := by
  cases ps <;> simp [PyData.eqv, PyData.eqvAll]
theorem ixN_last {n : Nat} : ixN (n + 1) (-1) = some n := by
  unfold ixN
  rw [if_neg (by omega), if_pos (by omega)]
  congr 1
  omega
end
theorem cut_to (xs : List V) (k : Nat) : cutV xs none (some (k : Int)) = xs.take k := by
  unfold cutV
  rw [HT.sIx_none, HT.sIx_nat, List.drop_zero, Nat.sub_zero]
  rcases Nat.le_total k xs.length with h | h
  · rw [Nat.min_eq_left h]
  · rw [Nat.min_eq_right h, List.take_length, List.take_of_length_le h]
theorem rep_one {α : Type} (x : α) : ∀ k : Nat, (List.replicate k [x]).flatten = List.replicate k x
  | 0 => rfl
  | k + 1 => by rw [List.replicate_succ, List.flatten_cons, rep_one x k]; rfl
theorem NdsV.rep {K : PySem.W.Frag} {H : Hp} {v : V} {a : Nd} (h : NdV K H v a) : ∀ k : Nat, NdsV K H (List.replicate k v) (List.replicate k a)
  | 0 => .nil
  | k + 1 => by
    rw [List.replicate_succ, List.replicate_succ]
    exact .cons h (NdsV.rep h k)
theorem NdsV.take {K : PySem.W.Frag} {H : Hp} : ∀ {ps : List Nd} {vs : List V} (k : Nat), NdsV K H vs ps → NdsV K H (vs.take k) (ps.take k)
  | [], vs, k, h => by rw [h.inv0]; simp; exact .nil
  | a :: r, vs, 0, h => by simp; exact .nil
  | a :: r, vs, k + 1, h => by
    obtain ⟨v, q, rfl, k1, k2⟩ := h.inv
    rw [List.take_succ_cons, List.take_succ_cons]
    exact .cons k1 (NdsV.take k k2)
end Loc
namespace Loc
open PySem PySem.Spec PyProof.Rows L2
section
variable {K : PySem.W.Frag} {H : Hp}
theorem PrsV.app {ps qs : List (Nd × Nat)} {vs us : List V} (h : PrsV K H vs ps) (k : PrsV K H us qs) : PrsV K H (vs ++ us) (ps ++ qs) := by
  show DpAll K H _ _
  rw [List.map_append]
  exact DpAll.app h k
theorem PrsV.split {ps : List (Nd × Nat)} {p : Nd × Nat} {vs : List V} (h : PrsV K H vs (ps ++ [p])) : ∃ us a u, vs = us ++ [.ref a] ∧ PrsV K H us ps ∧ SqT K H a [u, .int (p.2 : Int)] ∧ NdV K H u p.1 := by
  have h : DpAll K H vs ((ps ++ [p]).map pdat) := h
  rw [List.map_append] at h
  obtain ⟨us, ws, rfl, h1, h2⟩ := DpAll.split h
  cases h2 with
  | cons k1 k2 =>
    cases k2
    obtain ⟨a, u, rfl, t1, t2⟩ := PrsV.inv k1
    exact ⟨us, a, u, rfl, h1, t1, t2⟩
theorem PrsV.len {ps : List (Nd × Nat)} {vs : List V} (h : PrsV K H vs ps) : vs.length = ps.length := by rw [DpAll.len h, List.length_map]
theorem PrsV.get {ps : List (Nd × Nat)} {vs : List V} {i : Nat} {v : V} (h : PrsV K H vs ps) (e : vs[i]? = some v) : ∃ p a u, ps[i]? = some p ∧ v = .ref a ∧ SqT K H a [u, .int (p.2 : Int)] ∧ NdV K H u p.1 := by
  obtain ⟨d, h1, h2⟩ := DpAll.get h e
  rw [List.getElem?_map] at h1
  obtain ⟨p, hp, rfl⟩ := Option.map_eq_some_iff.mp h1
  obtain ⟨a, u, rfl, t1, t2⟩ := PrsV.inv h2
  exact ⟨p, a, u, hp, rfl, t1, t2⟩
end
end Loc

set_option Elab.async false
set_option linter.all false
set_option maxRecDepth 100000
namespace Loc
open PySem PySem.Spec PyProof.Rows L2
/-! ### texts and sizes -/
def numT (n : Nat) : Str := Str.ofString (toString (n : Int))
mutual
def txt : Nd → Str
  | .el n => numT n
  | .run b c => txt b ++ Str.ofString "^" ++ numT c
  | .blk ps => Str.ofString "(" ++ Txt.join " " (txts ps) ++ Str.ofString ")"
def txts : List Nd → List Str
  | [] => []
  | a :: r => txt a :: txts r
end
mutual
def sz : Nd → Nat
  | .el _ => 1
  | .run b c => sz b * c
  | .blk ps => szs ps
def szs : List Nd → Nat
  | [] => 0
  | a :: r => sz a + szs r
end
mutual
def ht : Nd → Nat
  | .el _ => 0
  | .run b _ => ht b + 1
  | .blk ps => hts ps + 1
def hts : List Nd → Nat
  | [] => 0
  | a :: r => max (ht a) (hts r)
end
theorem hts_mem : ∀ {ps : List Nd} {n : Nd}, n ∈ ps → ht n ≤ hts ps
  | a :: r, n, h => by
    unfold hts
    rcases List.mem_cons.mp h with rfl | h
    · omega
    · have := hts_mem h
      omega
theorem txts_map : ∀ ps : List Nd, txts ps = ps.map txt
  | [] => by unfold txts; rfl
  | a :: r => by unfold txts; rw [txts_map r]; rfl
theorem szs_sum : ∀ ps : List Nd, ((ps.map fun n => ((sz n : Nat) : Int)).sum) = (szs ps : Nat)
  | [] => by unfold szs; rfl
  | a :: r => by
    unfold szs
    rw [List.map_cons, List.sum_cons, szs_sum r]
    omega
mutual
theorem ht_le : ∀ (a : Nd) (l : Nat), Ok a l → ht a ≤ 2 * l + (if a.isRun then 1 else 0)
  | .el n, l, h => by simp [ht]
  | .run b c, l, h => by
    unfold Ok at h
    have ih := ht_le b l h.2.2.2
    rw [h.2.2.1] at ih
    simp only [ht, Nd.isRun, if_true, Bool.false_eq_true, if_false] at ih ⊢
    omega
  | .blk ps, l, h => by
    unfold Ok at h
    have ih := hts_le ps (l - 1) h.2.2.2.1
    simp only [ht, Nd.isRun, Bool.false_eq_true, if_false]
    omega
theorem hts_le : ∀ (ps : List Nd) (l : Nat), OkAll ps l → hts ps ≤ 2 * l + 1
  | [], l, _ => by simp [hts]
  | a :: r, l, h => by
    unfold OkAll at h
    have h1 := ht_le a l h.1
    have h2 := hts_le r l h.2
    simp only [hts]
    split at h1 <;> omega
end
mutual
theorem sz_lt : ∀ (a : Nd) (l : Nat), Ok a l → sz a < 2 ^ (404 * l + (if a.isRun then 202 else 2))
  | .el n, l, h => by
    unfold sz
    exact Nat.one_lt_two_pow (by split <;> omega)
  | .run b c, l, h => by
    unfold Ok at h
    have ih := sz_lt b l h.2.2.2
    rw [h.2.2.1] at ih
    simp only [Nd.isRun, if_true, Bool.false_eq_true, if_false, sz] at ih ⊢
    have hc : c < 2 ^ 200 := Nat.lt_of_le_of_lt h.2.1 (by decide +kernel)
    have := Nat.mul_lt_mul'' ih hc
    rw [← Nat.pow_add] at this
    exact this
  | .blk ps, l, h => by
    unfold Ok at h
    have ih := szs_lt ps (l - 1) h.2.2.2.1
    simp only [Nd.isRun, Bool.false_eq_true, if_false, sz]
    have hp := Nat.two_pow_pos (404 * (l - 1) + 202)
    have m : ps.length * 2 ^ (404 * (l - 1) + 202) ≤ 3 * 2 ^ (404 * (l - 1) + 202) := Nat.mul_le_mul_right _ h.2.2.1
    have e : 2 ^ (404 * (l - 1) + 202) * 2 ^ 2 ≤ 2 ^ (404 * l + 2) := by
      rw [← Nat.pow_add]
      exact Nat.pow_le_pow_right (by decide) (by omega)
    omega
theorem szs_lt : ∀ (ps : List Nd) (l : Nat), OkAll ps l → szs ps ≤ ps.length * 2 ^ (404 * l + 202)
  | [], l, _ => by simp [szs]
  | a :: r, l, h => by
    unfold OkAll at h
    have h1 := sz_lt a l h.1
    have h2 := szs_lt r l h.2
    have h3 : 2 ^ (404 * l + (if a.isRun then 202 else 2)) ≤ 2 ^ (404 * l + 202) := Nat.pow_le_pow_right (by decide) (by split <;> omega)
    simp only [szs, List.length_cons]
    rw [Nat.add_mul]
    omega
end
theorem sz_small {a : Nd} {l : Nat} (h : Ok a l) : sz a < 2 ^ (404 * l + 202) := Nat.lt_of_lt_of_le (sz_lt a l h) (Nat.pow_le_pow_right (by decide) (by split <;> omega))
theorem numT_len {n k : Nat} (hk : 0 < k) (h : n < 10 ^ k) : (numT n).length ≤ k := by
  have := shown_nat hk h
  rw [PyData.shown_int] at this
  exact this
mutual
theorem txt_len : ∀ (a : Nd) (l : Nat), Ok a l → (txt a).length + (if a.isRun then 0 else 80) ≤ wide l
  | .el n, l, h => by
    unfold Ok at h
    obtain ⟨rfl, hn⟩ := h
    have := numT_len (n := n) (k := 10) (by decide) (Nat.lt_of_le_of_lt hn (by decide))
    simp only [txt, Nd.isRun, wide, Bool.false_eq_true, if_false]
    omega
  | .run b c, l, h => by
    unfold Ok at h
    have ih := txt_len b l h.2.2.2
    rw [h.2.2.1] at ih
    have h1 := numT_len (n := c) (k := 61) (by decide) (Nat.lt_of_le_of_lt h.2.1 (by decide +kernel))
    simp only [txt, Nd.isRun, if_true, Bool.false_eq_true, if_false, strLen_append] at ih ⊢
    have e : (Str.ofString "^").length = 1 := by decide +kernel
    omega
  | .blk ps, l, h => by
    unfold Ok at h
    obtain ⟨hl, h2, h3, h4, _⟩ := h
    obtain ⟨j, rfl⟩ : ∃ j, l = j + 1 := ⟨l - 1, by omega⟩
    have ih := txts_len ps j h4
    have m : ps.length * wide j ≤ 3 * wide j := Nat.mul_le_mul_right _ h3
    have g := size_glued " " (txts ps)
    have e1 : (Str.ofString "(").length = 1 := by decide +kernel
    have e2 : (Str.ofString ")").length = 1 := by decide +kernel
    have e3 : (Str.ofString " ").length = 1 := by decide +kernel
    have e4 : (txts ps).length = ps.length := by rw [txts_map, List.length_map]
    rw [e3, e4] at g
    simp only [txt, Nd.isRun, Bool.false_eq_true, if_false, strLen_append, wide]
    show (Str.ofString "(").length + (Builtin.Str.glued " " (txts ps)).length + (Str.ofString ")").length + 80 ≤ _
    omega
theorem txts_len : ∀ (ps : List Nd) (l : Nat), OkAll ps l → ((txts ps).map (·.length)).sum ≤ ps.length * wide l
  | [], l, _ => by simp [txts]
  | a :: r, l, h => by
    unfold OkAll at h
    have h1 := txt_len a l h.1
    have h2 := txts_len r l h.2
    simp only [txts, List.map_cons, List.sum_cons, List.length_cons]
    rw [Nat.add_mul]
    omega
end
def C8 (s : Str) : Prop := ∀ c ∈ s.cps.toList, c < 16 ^ 8
theorem C8.of (s : String) : C8 (Str.ofString s) := fun c hc => by
  rw [signs_ofString] at hc
  obtain ⟨d, _, rfl⟩ := List.mem_map.mp hc
  exact d.val.toNat_lt
theorem C8.app {a b : Str} (h : C8 a) (k : C8 b) : C8 (a ++ b) := fun c hc => by
  have e : (a ++ b).cps.toList = a.cps.toList ++ b.cps.toList := by
    show (a.cps ++ b.cps).toList = _
    simp
  rw [e] at hc
  rcases List.mem_append.mp hc with hc | hc
  · exact h c hc
  · exact k c hc
theorem C8.join {sep : Str} (hs : C8 sep) : ∀ {l : List Str}, (∀ y ∈ l, C8 y) → C8 (Str.join sep l)
  | [], _ => fun c hc => by
    have : (Str.join sep []).cps.toList = [] := rfl
    rw [this] at hc
    cases hc
  | [x], h => h x List.mem_cons_self
  | x :: y :: r, h => ((h x List.mem_cons_self).app hs).app (C8.join hs fun z hz => h z (List.mem_cons_of_mem _ hz))
mutual
theorem txt_c8 : ∀ a : Nd, C8 (txt a)
  | .el n => by unfold txt; exact .of _
  | .run b c => by unfold txt; exact ((txt_c8 b).app (.of _)).app (.of _)
  | .blk ps => by
    unfold txt
    refine ((C8.of "(").app ?_).app (.of _)
    show C8 (Builtin.Str.glued " " (txts ps))
    rw [StrLaws.glued_eq_join]
    exact C8.join (.of _) (txts_c8 ps)
theorem txts_c8 : ∀ ps : List Nd, ∀ y ∈ txts ps, C8 y
  | [], y, h => by unfold txts at h; cases h
  | a :: r, y, h => by
    unfold txts at h
    rcases List.mem_cons.mp h with rfl | h
    · exact txt_c8 a
    · exact txts_c8 r y h
end
/-! repr of a node or a number -/
def rRepA (K : PySem.W.Frag) : List V → Hp → VK → Prop := fun xs H Q => rRep K xs H Q ∨ ∃ i : Int, xs = [.int i] ∧ i.natAbs.log2 < 1920 ∧ Q (.str (Str.ofString (toString i))) H
theorem call_repA {X : Cx} {k : Nat} (hr : Room k X.A) (hg : X.A.guards = some []) : CallR X (.builtin "repr") (rRepA X.K) := by
  intro pins s σ H xs us Q I r h
  rcases h with h | ⟨i, rfl, hz, q⟩
  · exact call_rep hr hg pins s σ H xs us Q I r h
  · obtain ⟨u, rfl, t, rfl⟩ := vals1 r
    exact PySem.P.repr_of_int hz ⟨.str _, H, I.tok _, ⟨_, rfl⟩, q⟩
theorem rep_node {K : PySem.W.Frag} {H : Hp} {v : V} {n : Nd} {l : Nat} {Q : VK} (hn : NdV K H v n) (ok : Ok n l) (hl : l ≤ 20) (hz : wide l ≤ sizeLine) (q : Q (.str (PyData.shown (dat n))) H) : rRepA K [v] H Q := by
  have d := depth_le ok
  have w := shown_dat n l ok
  have sh := showable_dat n l ok
  cases n with
  | el m =>
    have ev := hn.el
    subst ev
    refine .inr ⟨m, rfl, ?_, ?_⟩
    · simpa [dat, PyData.showable] using sh
    · have e : (dat (.el m)).shown = Str.ofString (toString (m : Int)) := by unfold dat; exact PyData.shown_int _
      rw [← e]
      exact q
  | run b c =>
    obtain ⟨a, v2, rfl, _, _⟩ := hn.run
    exact .inl ⟨a, _, rfl, hn, sh, noDict_dat _, by omega, by split at w <;> omega, q⟩
  | blk ps =>
    obtain ⟨a, b, vs, rfl, _, _, _⟩ := hn.blk
    exact .inl ⟨a, _, rfl, hn, sh, noDict_dat _, by omega, by split at w <;> omega, q⟩
end Loc

/-! the lowest digit in which two naturals differ -/
namespace M07
theorem or_two (a b : Nat) : (a ||| b) = 2 * ((a / 2) ||| (b / 2)) + (if a % 2 = 0 ∧ b % 2 = 0 then 0 else 1) := by
  have h1 : (a ||| b) / 2 = (a / 2) ||| (b / 2) := Nat.or_div_two
  have h2 : (a ||| b) % 2 = if a % 2 = 0 ∧ b % 2 = 0 then 0 else 1 := by
    have h3 := @Nat.or_mod_two_eq_one a b
    split <;> omega
  rw [← h1, ← h2]
  omega
theorem and_two (a b : Nat) : (a &&& b) = 2 * ((a / 2) &&& (b / 2)) + (if a % 2 = 1 ∧ b % 2 = 1 then 1 else 0) := by
  have h1 : (a &&& b) / 2 = (a / 2) &&& (b / 2) := Nat.and_div_two
  have h2 : (a &&& b) % 2 = if a % 2 = 1 ∧ b % 2 = 1 then 1 else 0 := by
    have h3 := @Nat.and_mod_two_eq_one a b
    split <;> omega
  rw [← h1, ← h2]
  omega
/-- the digits of one and not of the other -/
def dif (a b : Nat) : Nat := (a ||| b) - (a &&& b)
theorem and_le_or : ∀ (n a b : Nat), a + b ≤ n → (a &&& b) ≤ (a ||| b)
  | 0, a, b, h => by
    have e1 : a = 0 := by omega
    have e2 : b = 0 := by omega
    subst e1; subst e2; decide
  | n + 1, a, b, h => by
    by_cases z : a + b = 0
    · have e1 : a = 0 := by omega
      have e2 : b = 0 := by omega
      subst e1; subst e2; decide
    · have ih := and_le_or n (a / 2) (b / 2) (by omega)
      rw [or_two a b, and_two a b]
      split <;> split <;> omega
theorem dif_two (a b : Nat) : dif a b = 2 * dif (a / 2) (b / 2) + (if a % 2 = b % 2 then 0 else 1) := by
  unfold dif
  have k := and_le_or _ (a / 2) (b / 2) (Nat.le_refl _)
  rw [or_two a b, and_two a b]
  split <;> split <;> split <;> omega
/-- the lowest digit in which they differ, looked for within the fuel -/
def low : Nat → Nat → Nat → Nat
  | 0, _, _ => 0
  | n + 1, a, b => if a % 2 = b % 2 then low n (a / 2) (b / 2) + 1 else 0
theorem low_spec : ∀ (n a b : Nat), a + b < n → a ≠ b →
    (∃ q, dif a b = 2 ^ low n a b * (2 * q + 1)) ∧ (a / 2 ^ low n a b) % 2 ≠ (b / 2 ^ low n a b) % 2 ∧ ∀ i, i < low n a b → (a / 2 ^ i) % 2 = (b / 2 ^ i) % 2
  | 0, a, b, h, _ => by omega
  | n + 1, a, b, h, hne => by
    unfold low
    have hd := dif_two a b
    by_cases e : a % 2 = b % 2
    · rw [if_pos e]
      rw [if_pos e] at hd
      obtain ⟨⟨q, h1⟩, h2, h3⟩ := low_spec n (a / 2) (b / 2) (by omega) (by omega)
      refine ⟨⟨q, ?_⟩, ?_, fun i hi => ?_⟩
      · rw [hd, h1, Nat.pow_succ]
        simp [Nat.mul_assoc, Nat.mul_comm, Nat.mul_left_comm]
      · rw [Nat.pow_succ, Nat.mul_comm, ← Nat.div_div_eq_div_mul, ← Nat.div_div_eq_div_mul]
        exact h2
      · cases i with
        | zero => simpa using e
        | succ i =>
          rw [Nat.pow_succ, Nat.mul_comm, ← Nat.div_div_eq_div_mul, ← Nat.div_div_eq_div_mul]
          exact h3 i (by omega)
    · rw [if_neg e]
      rw [if_neg e] at hd
      refine ⟨⟨dif (a / 2) (b / 2), ?_⟩, ?_, fun i hi => ?_⟩
      · rw [hd]; simp
      · simpa using e
      · omega
/-- u & (u - 1), u = 2 ^ t * odd -/
theorem and_pred : ∀ (t q : Nat), (2 ^ t * (2 * q + 1)) &&& (2 ^ t * (2 * q + 1) - 1) = 2 ^ t * (2 * q)
  | 0, q => by
    simp only [Nat.pow_zero, Nat.one_mul, Nat.add_sub_cancel]
    rw [and_two]
    rw [show (2 * q + 1) / 2 = q by omega, show 2 * q / 2 = q by omega, Nat.and_self]
    rw [if_neg (by omega)]
    omega
  | t + 1, q => by
    have ih := and_pred t q
    have hp : 0 < 2 ^ t * (2 * q + 1) := Nat.mul_pos (Nat.two_pow_pos t) (by omega)
    rw [show 2 ^ (t + 1) * (2 * q + 1) = 2 * (2 ^ t * (2 * q + 1)) by rw [Nat.pow_succ]; simp [Nat.mul_assoc, Nat.mul_comm, Nat.mul_left_comm]]
    rw [show 2 ^ (t + 1) * (2 * q) = 2 * (2 ^ t * (2 * q)) by rw [Nat.pow_succ]; simp [Nat.mul_assoc, Nat.mul_comm, Nat.mul_left_comm]]
    generalize 2 ^ t * (2 * q + 1) = u at ih hp ⊢
    rw [and_two, if_neg (by omega)]
    rw [show 2 * u / 2 = u by omega, show (2 * u - 1) / 2 = u - 1 by omega, ih]
    omega
/-- the mark of a later place -/
def mk (a b : Nat) : Nat := 2 * low (a + b + 1) a b + (b / 2 ^ low (a + b + 1) a b) % 2
/-- a later round -/
def marks : Nat → List Nat → List Nat
  | _, [] => []
  | a, b :: r => mk a b :: marks b r
def round : List Nat → List Nat
  | [] => []
  | a :: r => a % 2 :: marks a r
theorem marks_length : ∀ (a : Nat) (l : List Nat), (marks a l).length = l.length
  | _, [] => rfl
  | a, b :: r => by show (marks b r).length + 1 = r.length + 1; rw [marks_length b r]
theorem round_length (l : List Nat) : (round l).length = l.length := by
  cases l with
  | nil => rfl
  | cons a r => show (marks a r).length + 1 = r.length + 1; rw [marks_length]
theorem marks_get : ∀ (a : Nat) (l : List Nat) (i x y : Nat), (a :: l)[i]? = some x → (a :: l)[i + 1]? = some y → (marks a l)[i]? = some (mk x y)
  | a, [], i, x, y, _, h => by simp at h
  | a, b :: r, 0, x, y, h1, h2 => by
    simp at h1 h2
    subst h1; subst h2; rfl
  | a, b :: r, i + 1, x, y, h1, h2 => by
    show (marks b r)[i]? = _
    exact marks_get b r i x y h1 h2
theorem round_get (l : List Nat) (i x y : Nat) (h1 : l[i]? = some x) (h2 : l[i + 1]? = some y) : (round l)[i + 1]? = some (mk x y) := by
  cases l with
  | nil => simp at h1
  | cons a r => exact marks_get a r i x y h1 h2
/-- neighbours unlike -/
def Unl : List Nat → Prop
  | a :: b :: r => a ≠ b ∧ Unl (b :: r)
  | _ => True
theorem Unl.get : ∀ {l : List Nat} {i x y : Nat}, Unl l → l[i]? = some x → l[i + 1]? = some y → x ≠ y
  | [], _, _, _, _, h, _ => by simp at h
  | [_], i, _, _, _, _, h => by simp at h
  | a :: b :: r, 0, x, y, u, h1, h2 => by
    simp at h1 h2
    subst h1; subst h2; exact u.1
  | a :: b :: r, i + 1, x, y, u, h1, h2 => Unl.get (l := b :: r) (i := i) u.2 (by simpa using h1) (by simpa using h2)
theorem mk_low {a b : Nat} (h : a ≠ b) : mk a b / 2 = low (a + b + 1) a b ∧ mk a b % 2 = (b / 2 ^ low (a + b + 1) a b) % 2 := by
  unfold mk
  omega
theorem mk_ne {a b c : Nat} (h1 : a ≠ b) (h2 : b ≠ c) : mk a b ≠ mk b c := fun e => by
  obtain ⟨p1, p2⟩ := mk_low h1
  obtain ⟨q1, q2⟩ := mk_low h2
  rw [e] at p1 p2
  have el : low (a + b + 1) a b = low (b + c + 1) b c := p1.symm.trans q1
  obtain ⟨_, k, _⟩ := low_spec (b + c + 1) b c (by omega) h2
  rw [← el] at k q2
  exact k (p2.symm.trans q2)
theorem mk_ne0 {a b : Nat} (h : a ≠ b) : a % 2 ≠ mk a b := fun e => by
  obtain ⟨p1, p2⟩ := mk_low h
  obtain ⟨_, k, _⟩ := low_spec (a + b + 1) a b (by omega) h
  have e0 : low (a + b + 1) a b = 0 := by omega
  rw [e0] at k p2
  simp at k p2
  omega
theorem marks_unl : ∀ (a : Nat) (l : List Nat), Unl (a :: l) → Unl (marks a l)
  | _, [], _ => trivial
  | _, [_], _ => trivial
  | a, b :: c :: r, u => ⟨mk_ne u.1 u.2.1, marks_unl b (c :: r) u.2⟩
theorem round_unl (l : List Nat) (u : Unl l) : Unl (round l) := by
  match l, u with
  | [], _ => trivial
  | [_], _ => trivial
  | a :: b :: r, u => exact ⟨mk_ne0 u.1, marks_unl a (b :: r) u⟩
end M07

set_option Elab.async false
set_option linter.all false
namespace M07
open PySem PyProof.Rows
theorem xor_nn (x y : Nat) : Builtin.bitXor (x : Int) (y : Int) = (dif x y : Nat) := by
  show Builtin.bitOr (x : Int) (y : Int) - Builtin.bitAnd (x : Int) (y : Int) = _
  have k := and_le_or _ x y (Nat.le_refl _)
  rw [L2.bitOr_nn (Int.natCast_nonneg _) (Int.natCast_nonneg _), bitAnd_pp (Int.natCast_nonneg _) (Int.natCast_nonneg _)]
  simp only [Int.toNat_natCast]
  unfold dif
  omega
theorem and_neg (u : Nat) (h : 0 < u) : Builtin.bitAnd (u : Int) (-(u : Int)) = (u : Int) - ((u &&& (u - 1) : Nat) : Int) := by
  have h1 : ¬ 0 ≤ -(u : Int) := by omega
  have h2 : (0 : Int) ≤ u := by omega
  have e : (Builtin.bitNot (-(u : Int))).toNat = u - 1 := by
    show (- -(u : Int) - 1).toNat = u - 1
    omega
  unfold Builtin.bitAnd
  rw [decide_eq_true h2, decide_eq_false h1]
  show (u : Int) - (((u : Int).toNat &&& (Builtin.bitNot (-(u : Int))).toNat : Nat) : Int) = _
  rw [e, Int.toNat_natCast]
theorem low_word {x y : Nat} (h : x ≠ y) : ((Builtin.Int.intBits (Builtin.bitAnd (Builtin.bitXor (x : Int) (y : Int)) (-(Builtin.bitXor (x : Int) (y : Int)))) : Nat) : Int) - 1 = (low (x + y + 1) x y : Nat) := by
  obtain ⟨⟨q, e⟩, _, _⟩ := low_spec (x + y + 1) x y (by omega) h
  generalize low (x + y + 1) x y = t at e ⊢
  have hp : 0 < 2 ^ t := Nat.two_pow_pos t
  have hu : 0 < dif x y := by
    rw [e]
    exact Nat.mul_pos hp (by omega)
  rw [xor_nn, and_neg _ hu, e, and_pred t q]
  have e2 : ((2 ^ t * (2 * q + 1) : Nat) : Int) - ((2 ^ t * (2 * q) : Nat) : Int) = ((2 ^ t : Nat) : Int) := by
    rw [show 2 ^ t * (2 * q + 1) = 2 ^ t * (2 * q) + 2 ^ t by rw [Nat.mul_add, Nat.mul_one]]
    omega
  rw [e2]
  unfold Builtin.Int.intBits
  have hz : ¬ (((2 ^ t : Nat) : Int) == 0) = true := by
    rw [beq_iff_eq]
    omega
  rw [if_neg hz, Int.natAbs_natCast, Nat.log2_two_pow]
  omega
theorem high_word (y t : Nat) : Builtin.bitAnd ((y : Int) / 2 ^ t) 1 = ((y / 2 ^ t % 2 : Nat) : Int) := by
  rw [PyProof.Rows.bitAnd_m1, ← PySem.W.kbt_cast t]
  omega
theorem mark_word {x y : Nat} (h : x ≠ y) : 2 * (((Builtin.Int.intBits (Builtin.bitAnd (Builtin.bitXor (x : Int) (y : Int)) (-(Builtin.bitXor (x : Int) (y : Int)))) : Nat) : Int) - 1) +
    Builtin.bitAnd ((y : Int) / 2 ^ (((Builtin.Int.intBits (Builtin.bitAnd (Builtin.bitXor (x : Int) (y : Int)) (-(Builtin.bitXor (x : Int) (y : Int)))) : Nat) : Int) - 1).toNat) 1 = (mk x y : Nat) := by
  rw [low_word h, Int.toNat_natCast, high_word]
  unfold mk
  omega
end M07

set_option Elab.async false
set_option linter.all false
set_option maxRecDepth 100000
namespace Loc
open PySem PySem.Spec PyProof.Rows L2 TL
/-! ### texts as lists of signs -/
mutual
def cd : Nd → List Nat
  | .el n => numL n
  | .run b c => cd b ++ 94 :: numL c
  | .blk ps => 40 :: cds ps
def cds : List Nd → List Nat
  | [] => [41]
  | a :: r => cd a ++ cdt r
def cdt : List Nd → List Nat
  | [] => [41]
  | a :: r => 32 :: (cd a ++ cdt r)
end
theorem cd_run (b : Nd) (c : Nat) : cd (.run b c) = cd b ++ 94 :: numL c := by rw [cd]
/-- a sign of a text -/
def Sg (c : Nat) : Prop := (48 ≤ c ∧ c ≤ 57) ∨ c = 32 ∨ c = 40 ∨ c = 41 ∨ c = 94
theorem numL_sg (n : Nat) : ∀ c ∈ numL n, 48 ≤ c ∧ c ≤ 57 := fun c hc => numL_digits n c hc
mutual
theorem cd_sg : ∀ a : Nd, ∀ c ∈ cd a, Sg c
  | .el n, c, h => by
    unfold cd at h
    exact .inl (numL_sg n c h)
  | .run b k, c, h => by
    unfold cd at h
    rcases List.mem_append.mp h with h | h
    · exact cd_sg b c h
    rcases List.mem_cons.mp h with h | h
    · exact .inr (.inr (.inr (.inr h)))
    · exact .inl (numL_sg k c h)
  | .blk ps, c, h => by
    unfold cd at h
    rcases List.mem_cons.mp h with h | h
    · exact .inr (.inr (.inl h))
    · exact cds_sg ps c h
theorem cds_sg : ∀ ps : List Nd, ∀ c ∈ cds ps, Sg c
  | [], c, h => by
    unfold cds at h
    exact .inr (.inr (.inr (.inl (List.mem_singleton.mp h))))
  | a :: r, c, h => by
    unfold cds at h
    rcases List.mem_append.mp h with h | h
    · exact cd_sg a c h
    · exact cdt_sg r c h
theorem cdt_sg : ∀ ps : List Nd, ∀ c ∈ cdt ps, Sg c
  | [], c, h => by
    unfold cdt at h
    exact .inr (.inr (.inr (.inl (List.mem_singleton.mp h))))
  | a :: r, c, h => by
    unfold cdt at h
    rcases List.mem_cons.mp h with h | h
    · exact .inr (.inl h)
    rcases List.mem_append.mp h with h | h
    · exact cd_sg a c h
    · exact cdt_sg r c h
end
/-- what may stand behind a node's text; behind that of a base -/
def Dl (s : List Nat) : Prop := s = [] ∨ ∃ r, s = 32 :: r ∨ s = 41 :: r
def Dv (s : List Nat) : Prop := Dl s ∨ ∃ r, s = 94 :: r
theorem Dv.no {s : List Nat} {c : Nat} {r : List Nat} (h : Dv s) (e : s = c :: r) (d : (48 ≤ c ∧ c ≤ 57) ∨ c = 40) : False := by
  rcases h with (h | ⟨q, h | h⟩) | ⟨q, h⟩
  · rw [h] at e; cases e
  · rw [h] at e
    injection e with e _
    omega
  · rw [h] at e
    injection e with e _
    omega
  · rw [h] at e
    injection e with e _
    omega
theorem digs : ∀ (x y s t : List Nat), (∀ c ∈ x, 48 ≤ c ∧ c ≤ 57) → (∀ c ∈ y, 48 ≤ c ∧ c ≤ 57) → Dv s → Dv t → x ++ s = y ++ t → x = y ∧ s = t
  | [], [], s, t, _, _, _, _, e => ⟨rfl, e⟩
  | [], d :: y, s, t, _, hy, ds, _, e => (ds.no e (.inl (hy d List.mem_cons_self))).elim
  | d :: x, [], s, t, hx, _, _, dt, e => (dt.no e.symm (.inl (hx d List.mem_cons_self))).elim
  | c :: x, d :: y, s, t, hx, hy, ds, dt, e => by
    injection e with e1 e2
    obtain ⟨h1, h2⟩ := digs x y s t (fun z hz => hx z (List.mem_cons_of_mem _ hz)) (fun z hz => hy z (List.mem_cons_of_mem _ hz)) ds dt e2
    exact ⟨by rw [e1, h1], h2⟩
theorem Dl.no94 {r : List Nat} (h : Dl (94 :: r)) : False := by
  rcases h with h | ⟨q, h | h⟩
  · cases h
  · injection h with h _; exact absurd h (by decide)
  · injection h with h _; exact absurd h (by decide)
mutual
theorem cd_head : ∀ a : Nd, ∃ c r, cd a = c :: r ∧ ((48 ≤ c ∧ c ≤ 57) ∨ c = 40)
  | .el n => by
    unfold cd
    cases e : numL n with
    | nil => exact absurd e (numL_ne n)
    | cons c r => exact ⟨c, r, rfl, .inl (numL_sg n c (by rw [e]; exact List.mem_cons_self))⟩
  | .run b k => by
    obtain ⟨c, r, e, d⟩ := cd_head b
    unfold cd
    rw [e]
    exact ⟨c, _, rfl, d⟩
  | .blk ps => by
    unfold cd
    exact ⟨40, _, rfl, .inr rfl⟩
end
theorem cdt_dl (ps : List Nd) (s : List Nat) : Dl (cdt ps ++ s) := by
  cases ps with
  | nil => unfold cdt; exact .inr ⟨_, .inr rfl⟩
  | cons a r => unfold cdt; exact .inr ⟨_, .inl rfl⟩
def Inj (a : Nd) : Prop := (∀ (b : Nd) (l l' : Nat) (s t : List Nat), a.isRun = false → b.isRun = false → Ok a l → Ok b l' → Dv s → Dv t → cd a ++ s = cd b ++ t → a = b ∧ s = t)
def InjU (a : Nd) : Prop := (∀ (b : Nd) (l l' : Nat) (s t : List Nat), Ok a l → Ok b l' → Dl s → Dl t → cd a ++ s = cd b ++ t → a = b ∧ s = t)
theorem injU_of {a : Nd} (h : Inj a) (hr : a.isRun = false) : InjU a := fun b l l' s t oa ob ds dt e => by
  cases b with
  | run b c =>
    rw [cd_run, List.append_assoc] at e
    have ob' := ob
    unfold Ok at ob'
    obtain ⟨_, h2⟩ := h b l l' s _ hr ob'.2.2.1 oa ob'.2.2.2 (.inl ds) (.inr ⟨numL c ++ t, rfl⟩) e
    exact (Dl.no94 (h2 ▸ ds)).elim
  | el n => exact h _ l l' s t hr rfl oa ob (.inl ds) (.inl dt) e
  | blk ps => exact h _ l l' s t hr rfl oa ob (.inl ds) (.inl dt) e
theorem injU_run {a : Nd} {c : Nat} (h : Inj a) : InjU (.run a c) := fun b l l' s t oa ob ds dt e => by
  unfold Ok at oa
  cases b with
  | run b d =>
    unfold Ok at ob
    rw [cd_run, cd_run, List.append_assoc, List.append_assoc] at e
    obtain ⟨h1, h2⟩ := h b l l' _ _ oa.2.2.1 ob.2.2.1 oa.2.2.2 ob.2.2.2 (.inr ⟨_, rfl⟩) (.inr ⟨_, rfl⟩) e
    injection h2 with _ h2
    have h2 : numL c ++ s = numL d ++ t := h2
    obtain ⟨h3, h4⟩ := digs _ _ s t (numL_sg c) (numL_sg d) (.inl ds) (.inl dt) h2
    exact ⟨by rw [h1, numL_inj h3], h4⟩
  | el n =>
    rw [cd_run, List.append_assoc] at e
    obtain ⟨_, h2⟩ := h (.el n) l l' _ t oa.2.2.1 rfl oa.2.2.2 ob (.inr ⟨numL c ++ s, rfl⟩) (.inl dt) e
    exact (Dl.no94 (h2 ▸ dt)).elim
  | blk ps =>
    rw [cd_run, List.append_assoc] at e
    obtain ⟨_, h2⟩ := h (.blk ps) l l' _ t oa.2.2.1 rfl oa.2.2.2 ob (.inr ⟨numL c ++ s, rfl⟩) (.inl dt) e
    exact (Dl.no94 (h2 ▸ dt)).elim
mutual
theorem inj : ∀ a : Nd, Inj a
  | .el n => fun b l l' s t _ rb oa ob ds dt e => by
    cases b with
    | run b c => cases rb
    | el m =>
      unfold cd at e
      obtain ⟨h1, h2⟩ := digs _ _ s t (numL_sg n) (numL_sg m) ds dt e
      exact ⟨by rw [numL_inj h1], h2⟩
    | blk ps =>
      exfalso
      unfold cd at e
      cases en : numL n with
      | nil => exact numL_ne n en
      | cons c r =>
        rw [en, List.cons_append, List.cons_append] at e
        injection e with e _
        have := numL_sg n c (by rw [en]; exact List.mem_cons_self)
        omega
  | .run b c => fun _ _ _ _ _ ra => by cases ra
  | .blk ps => fun b l l' s t _ rb oa ob ds dt e => by
    cases b with
    | run b c => cases rb
    | el m =>
      exfalso
      unfold cd at e
      cases en : numL m with
      | nil => exact numL_ne m en
      | cons c r =>
        rw [en, List.cons_append, List.cons_append] at e
        injection e with e _
        have := numL_sg m c (by rw [en]; exact List.mem_cons_self)
        omega
    | blk qs =>
      unfold Ok at oa ob
      unfold cd at e
      rw [List.cons_append, List.cons_append] at e
      injection e with _ e
      match ps, qs, oa, ob, e with
      | [], _, oa, _, _ => exact absurd oa.2.1 (by simp)
      | _ :: _, [], _, ob, _ => exact absurd ob.2.1 (by simp)
      | a :: r, b :: q, oa, ob, e =>
        unfold cds at e
        have o1 := oa.2.2.2.1
        have o2 := ob.2.2.2.1
        unfold OkAll at o1 o2
        rw [List.append_assoc, List.append_assoc] at e
        obtain ⟨h1, h2⟩ := injUs a b _ _ _ _ o1.1 o2.1 (cdt_dl r s) (cdt_dl q t) e
        obtain ⟨h3, h4⟩ := injT r q _ _ s t o1.2 o2.2 h2
        exact ⟨by rw [h1, h3], h4⟩
theorem injUs : ∀ a : Nd, InjU a
  | .el n => injU_of (inj (.el n)) rfl
  | .run b c => injU_run (inj b)
  | .blk ps => injU_of (inj (.blk ps)) rfl
theorem injT : ∀ (ps qs : List Nd) (l l' : Nat) (s t : List Nat), OkAll ps l → OkAll qs l' → cdt ps ++ s = cdt qs ++ t → ps = qs ∧ s = t
  | [], [], _, _, s, t, _, _, e => by
    unfold cdt at e
    injection e with _ e
    exact ⟨rfl, e⟩
  | [], b :: q, _, _, s, t, _, _, e => by
    unfold cdt at e
    injection e with e _
    exact absurd e (by decide)
  | a :: r, [], _, _, s, t, _, _, e => by
    unfold cdt at e
    injection e with e _
    exact absurd e (by decide)
  | a :: r, b :: q, l, l', s, t, oa, ob, e => by
    unfold cdt at e
    rw [List.cons_append, List.cons_append, List.append_assoc, List.append_assoc] at e
    injection e with _ e
    unfold OkAll at oa ob
    obtain ⟨h1, h2⟩ := injUs a b l l' _ _ oa.1 ob.1 (cdt_dl r s) (cdt_dl q t) e
    obtain ⟨h3, h4⟩ := injT r q l l' s t oa.2 ob.2 h2
    exact ⟨by rw [h1, h3], h4⟩
end
theorem cd_inj {a b : Nd} {l l' : Nat} (oa : Ok a l) (ob : Ok b l') (e : cd a = cd b) : a = b :=
  (injUs a b l l' [] [] oa ob (.inl rfl) (.inl rfl) (by rw [e])).1
end Loc

set_option Elab.async false
set_option linter.all false
set_option maxRecDepth 100000
namespace Loc
open PySem PySem.Spec PyProof.Rows L2 TL
/-! ### first marks -/
def cp : List Nat → List Nat → Nat
  | a :: r, b :: q => if a = b then cp r q + 1 else 0
  | _, _ => 0
theorem cp_same : ∀ (a b : List Nat) (i : Nat), i < cp a b → ∃ x, a[i]? = some x ∧ b[i]? = some x
  | [], _, i, h => by unfold cp at h; exact absurd h (Nat.not_lt_zero _)
  | _ :: _, [], i, h => by unfold cp at h; exact absurd h (Nat.not_lt_zero _)
  | a :: r, b :: q, i, h => by
    unfold cp at h
    split at h
    · rename_i e
      cases i with
      | zero => exact ⟨a, rfl, by rw [e]; rfl⟩
      | succ i => exact cp_same r q i (by omega)
    · exact absurd h (Nat.not_lt_zero _)
theorem cp_le : ∀ (a b : List Nat), cp a b ≤ a.length ∧ cp a b ≤ b.length
  | [], _ => by unfold cp; exact ⟨Nat.zero_le _, Nat.zero_le _⟩
  | _ :: _, [] => by unfold cp; exact ⟨Nat.zero_le _, Nat.zero_le _⟩
  | a :: r, b :: q => by
    have := cp_le r q
    unfold cp
    simp only [List.length_cons]
    split <;> omega
/-- there they differ, or one has ended -/
theorem cp_end : ∀ (a b : List Nat), a ≠ b → a[cp a b]? ≠ b[cp a b]?
  | [], [], h => absurd rfl h
  | [], b :: q, _ => by unfold cp; simp
  | a :: r, [], _ => by unfold cp; simp
  | a :: r, b :: q, h => by
    unfold cp
    split
    · rename_i e
      exact cp_end r q fun z => h (by rw [e, z])
    · rename_i e
      simpa using e
def code (c : Nat) : Nat := if 48 ≤ c ∧ c ≤ 57 then c - 48 else if c = 32 then 10 else if c = 40 then 11 else if c = 41 then 12 else if c = 94 then 13 else 14
theorem code_lt {c : Nat} (h : Sg c) : code c < 14 := by
  unfold code
  unfold Sg at h
  split
  · omega
  split
  · omega
  split
  · omega
  split
  · omega
  split
  · omega
  · omega
theorem code_inj {c d : Nat} (h : Sg c) (k : Sg d) (e : code c = code d) : c = d := by
  unfold code at e
  unfold Sg at h k
  rcases h with h | h | h | h | h <;> rcases k with k | k | k | k | k <;> simp_all <;> omega
def codeAt (t : List Nat) (i : Nat) : Nat := match t[i]? with
  | some c => code c
  | none => 14
theorem codeAt_some {t : List Nat} {i c : Nat} (h : t[i]? = some c) : codeAt t i = code c := by unfold codeAt; rw [h]
theorem codeAt_none {t : List Nat} {i : Nat} (h : t[i]? = none) : codeAt t i = 14 := by unfold codeAt; rw [h]
theorem codeAt_le {t : List Nat} (h : ∀ c ∈ t, Sg c) (i : Nat) : codeAt t i ≤ 14 := by
  cases e : t[i]? with
  | none => rw [codeAt_none e]; exact Nat.le_refl _
  | some c => rw [codeAt_some e]; exact Nat.le_of_lt (code_lt (h c (List.mem_of_getElem? e)))
theorem codeAt_ne {a b : List Nat} (ha : ∀ c ∈ a, Sg c) (hb : ∀ c ∈ b, Sg c) {i : Nat} (h : a[i]? ≠ b[i]?) : codeAt a i ≠ codeAt b i := by
  cases e : a[i]? with
  | none =>
    cases k : b[i]? with
    | none => rw [e, k] at h; exact absurd rfl h
    | some d =>
      rw [codeAt_none e, codeAt_some k]
      have := code_lt (hb d (List.mem_of_getElem? k))
      omega
  | some c =>
    have h1 := code_lt (ha c (List.mem_of_getElem? e))
    cases k : b[i]? with
    | none =>
      rw [codeAt_none k, codeAt_some e]
      omega
    | some d =>
      rw [codeAt_some e, codeAt_some k]
      intro z
      have := code_inj (ha c (List.mem_of_getElem? e)) (hb d (List.mem_of_getElem? k)) z
      rw [e, k, this] at h
      exact h rfl
def fmk (a b : List Nat) : Nat := 16 * cp a b + codeAt b (cp a b)
def fmt : List Nat → List (List Nat) → List Nat
  | _, [] => []
  | a, b :: r => fmk a b :: fmt b r
def fms : List (List Nat) → List Nat
  | [] => []
  | a :: r => codeAt a 0 :: fmt a r
theorem fmt_length : ∀ (a : List Nat) (l : List (List Nat)), (fmt a l).length = l.length
  | _, [] => rfl
  | a, b :: r => by show (fmt b r).length + 1 = r.length + 1; rw [fmt_length b r]
theorem fms_length (l : List (List Nat)) : (fms l).length = l.length := by
  cases l with
  | nil => rfl
  | cons a r => show (fmt a r).length + 1 = r.length + 1; rw [fmt_length]
theorem fmt_get : ∀ (a : List Nat) (l : List (List Nat)) (i : Nat) (x y : List Nat), (a :: l)[i]? = some x → (a :: l)[i + 1]? = some y → (fmt a l)[i]? = some (fmk x y)
  | a, [], i, x, y, _, h => by simp at h
  | a, b :: r, 0, x, y, h1, h2 => by
    simp at h1 h2
    subst h1; subst h2; rfl
  | a, b :: r, i + 1, x, y, h1, h2 => by
    show (fmt b r)[i]? = _
    exact fmt_get b r i x y h1 h2
theorem fms_get (l : List (List Nat)) (i : Nat) (x y : List Nat) (h1 : l[i]? = some x) (h2 : l[i + 1]? = some y) : (fms l)[i + 1]? = some (fmk x y) := by
  cases l with
  | nil => simp at h1
  | cons a r => exact fmt_get a r i x y h1 h2
/-- neighbours unlike -/
def UnlT : List (List Nat) → Prop
  | a :: b :: r => a ≠ b ∧ UnlT (b :: r)
  | _ => True
theorem fmk_ne {a b c : List Nat} (ha : ∀ x ∈ a, Sg x) (hb : ∀ x ∈ b, Sg x) (hc : ∀ x ∈ c, Sg x) (h1 : a ≠ b) (h2 : b ≠ c) : fmk a b ≠ fmk b c := fun e => by
  have l1 := codeAt_le hb (cp a b)
  have l2 := codeAt_le hc (cp b c)
  unfold fmk at e
  have ei : cp a b = cp b c := by omega
  have ec : codeAt b (cp a b) = codeAt c (cp b c) := by omega
  rw [ei] at ec
  exact codeAt_ne hb hc (cp_end b c h2) ec
theorem fmk_ne0 {a b : List Nat} (ha : ∀ x ∈ a, Sg x) (hb : ∀ x ∈ b, Sg x) (h : a ≠ b) : codeAt a 0 ≠ fmk a b := fun e => by
  have l1 := codeAt_le ha 0
  have l2 := codeAt_le hb (cp a b)
  unfold fmk at e
  have e0 : cp a b = 0 := by omega
  have k := cp_end a b h
  rw [e0] at k e
  exact codeAt_ne ha hb k (by omega)
theorem fmt_unl : ∀ (a : List Nat) (l : List (List Nat)), (∀ t ∈ a :: l, ∀ x ∈ t, Sg x) → UnlT (a :: l) → M07.Unl (fmt a l)
  | _, [], _, _ => trivial
  | _, [_], _, _ => trivial
  | a, b :: c :: r, hs, u => ⟨fmk_ne (hs a (by simp)) (hs b (by simp)) (hs c (by simp)) u.1 u.2.1, fmt_unl b (c :: r) (fun t ht => hs t (List.mem_cons_of_mem _ ht)) u.2⟩
theorem fms_unl (l : List (List Nat)) (hs : ∀ t ∈ l, ∀ x ∈ t, Sg x) (u : UnlT l) : M07.Unl (fms l) := by
  match l, hs, u with
  | [], _, _ => trivial
  | [_], _, _ => trivial
  | a :: b :: r, hs, u => exact ⟨fmk_ne0 (hs a (by simp)) (hs b (by simp)) u.1, fmt_unl a (b :: r) hs u⟩
theorem UnlT.get : ∀ {l : List (List Nat)} {i : Nat} {x y : List Nat}, UnlT l → l[i]? = some x → l[i + 1]? = some y → x ≠ y
  | [], _, _, _, _, h, _ => by simp at h
  | [_], i, _, _, _, _, h => by simp at h
  | a :: b :: r, 0, x, y, u, h1, h2 => by
    simp at h1 h2
    subst h1; subst h2; exact u.1
  | a :: b :: r, i + 1, x, y, u, h1, h2 => UnlT.get (l := b :: r) (i := i) u.2 (by simpa using h1) (by simpa using h2)
/-- unlike bases, unlike texts -/
theorem unlT_of {l : Nat} : ∀ {ns : List Nd}, OkAll ns l → Unb ns → UnlT (ns.map cd)
  | [], _, _ => trivial
  | [_], _, _ => trivial
  | a :: b :: r, ok, u => by
    unfold OkAll at ok
    have ok2 := ok.2
    unfold OkAll at ok2
    exact ⟨fun e => u.1 (by rw [cd_inj ok.1 ok2.1 e]), unlT_of (ns := b :: r) ok.2 u.2⟩
theorem cds_sgs (ns : List Nd) : ∀ t ∈ ns.map cd, ∀ x ∈ t, Sg x := fun t ht => by
  obtain ⟨n, _, rfl⟩ := List.mem_map.mp ht
  exact cd_sg n
mutual
theorem tl_txt : ∀ a : Nd, tl (txt a) = cd a
  | .el n => by
    unfold txt cd
    exact tl_num n
  | .run b c => by
    rw [show txt (.run b c) = txt b ++ Str.ofString "^" ++ numT c by rw [txt], cd_run, tl_append, tl_append, tl_txt b, List.append_assoc]
    have e1 : tl (Str.ofString "^") = [94] := by decide +kernel
    have e2 : tl (numT c) = numL c := tl_num c
    rw [e1, e2]
    rfl
  | .blk ps => by
    rw [show txt (.blk ps) = Str.ofString "(" ++ Txt.join " " (txts ps) ++ Str.ofString ")" by rw [txt], show cd (.blk ps) = 40 :: cds ps by rw [cd], tl_append, tl_append, join_eq, tl_join]
    have e1 : tl (Str.ofString "(") = [40] := by decide +kernel
    have e2 : tl (Str.ofString ")") = [41] := by decide +kernel
    have e3 : tl (Str.ofString " ") = [32] := by decide +kernel
    rw [e1, e2, e3, List.append_assoc]
    show 40 :: (joinL [32] ((txts ps).map tl) ++ [41]) = _
    rw [tl_txts ps]
theorem tl_txts : ∀ ps : List Nd, joinL [32] ((txts ps).map tl) ++ [41] = cds ps
  | [] => by
    rw [show txts [] = [] by rw [txts], show cds [] = [41] by rw [cds]]
    rfl
  | [a] => by
    rw [show txts [a] = [txt a] by rw [txts, txts], show cds [a] = cd a ++ cdt [] by rw [cds], show cdt [] = [41] by rw [cdt], ← tl_txt a]
    rfl
  | a :: b :: r => by
    rw [show txts (a :: b :: r) = txt a :: txts (b :: r) by rw [txts], show cds (a :: b :: r) = cd a ++ cdt (b :: r) by rw [cds], show cdt (b :: r) = 32 :: (cd b ++ cdt r) by rw [cdt], ← show cds (b :: r) = cd b ++ cdt r by rw [cds], ← tl_txts (b :: r), ← tl_txt a]
    rw [show txts (b :: r) = txt b :: txts r by rw [txts]]
    show tl (txt a) ++ ([32] ++ joinL [32] ((txt b :: txts r).map tl)) ++ [41] = _
    simp
end
theorem cd_len {a : Nd} : (cd a).length = (txt a).length := by rw [← tl_txt, len_tl]
/-- the sign's place in the program's list of signs -/
theorem sign_at {c : Nat} (h : Sg c) : ∃ rest, Builtin.Str.occurrences "0123456789 ()^" ⟨#[c]⟩ 0 (Str.ofString "0123456789 ()^").length 1 = code c :: rest := by
  unfold Sg at h
  have : c = 48 ∨ c = 49 ∨ c = 50 ∨ c = 51 ∨ c = 52 ∨ c = 53 ∨ c = 54 ∨ c = 55 ∨ c = 56 ∨ c = 57 ∨ c = 32 ∨ c = 40 ∨ c = 41 ∨ c = 94 := by omega
  rcases this with rfl | rfl | rfl | rfl | rfl | rfl | rfl | rfl | rfl | rfl | rfl | rfl | rfl | rfl <;> exact ⟨[], by decide +kernel⟩
/-- .. in the law's list, with one more sign -/
theorem sign_atL {c : Nat} (h : Sg c ∨ c = 36) : ∃ rest, Builtin.Str.occurrences "0123456789 ()^$" ⟨#[c]⟩ 0 (Str.ofString "0123456789 ()^$").length 1 = code c :: rest := by
  unfold Sg at h
  have : c = 48 ∨ c = 49 ∨ c = 50 ∨ c = 51 ∨ c = 52 ∨ c = 53 ∨ c = 54 ∨ c = 55 ∨ c = 56 ∨ c = 57 ∨ c = 32 ∨ c = 40 ∨ c = 41 ∨ c = 94 ∨ c = 36 := by omega
  rcases this with rfl | rfl | rfl | rfl | rfl | rfl | rfl | rfl | rfl | rfl | rfl | rfl | rfl | rfl | rfl <;> exact ⟨[], by decide +kernel⟩
end Loc
namespace Loc
open PySem PySem.Spec PyProof.Rows L2 TL
theorem cp_stop : ∀ (a b : List Nat) (x y : Nat), a[cp a b]? = some x → b[cp a b]? = some y → x ≠ y
  | [], _, x, y, h, _ => by simp at h
  | _ :: _, [], x, y, _, h => by simp at h
  | a :: r, b :: q, x, y, h, k => by
    unfold cp at h k
    split at h
    · rename_i e
      rw [if_pos e] at k
      exact cp_stop r q x y (by simpa using h) (by simpa using k)
    · rename_i e
      rw [if_neg e] at k
      have e1 : a = x := by simpa using h
      have e2 : b = y := by simpa using k
      rw [← e1, ← e2]
      exact e
abbrev vT (ns : List Nd) : List V := ns.map fun n => V.str (txt n)
theorem vT_get {ns : List Nd} {i : Nat} {n : Nd} (h : ns[i]? = some n) : (vT ns)[i]? = some (.str (txt n)) := by
  rw [List.getElem?_map, h]
  rfl
theorem one_sign {c d : Nat} : decide (V.str ⟨#[c]⟩ = V.str ⟨#[d]⟩) = decide (c = d) := by
  by_cases h : c = d
  · rw [h, decide_eq_true rfl, decide_eq_true rfl]
  · rw [decide_eq_false h, decide_eq_false (fun e => h (by
      injection e with e
      injection e with e
      have := congrArg (fun a => a.toList) e
      simpa using this))]
theorem len_cd {a : Nd} {l : Nat} (h : Ok a l) (hw : wide l ≤ 1000000) : (txt a).length ≤ 1000000 ∧ (txt a).length ≤ sizeLine := by
  have := txt_len a l h
  have : (txt a).length ≤ 1000000 := by split at this <;> omega
  exact ⟨this, Nat.le_trans this (by decide)⟩
end Loc

set_option Elab.async false
set_option linter.all false
set_option maxRecDepth 100000
namespace Loc
open PySem PySem.Spec PyProof.Rows L2
/-! ### list(range(a, b, c)); for x in r, r a range that is at hand -/
section
variable {X : Cx} {tg : Expr}
def tLstRg3 (ta : TA) : TE := fun σ H Q => ta σ H fun vs H1 => ∃ (i j c : Int) (n : Nat), vs = [.int i, .int j, .int c] ∧ RgC i j c n ∧ n ≤ 2 ^ 24 ∧ ∀ q, H1 q = none → Q (.ref q) (upd H1 q (.lst ((List.range n).map fun k => V.int (i + (k : Nat) * c))))
theorem vals_rgC {a c : Int} {n : Nat} {acc : Array Value} (h : ItemsOf (fun i v => ∃ t, v = .int (a + i * c) t) acc n) : Vals ((List.range n).map fun k => V.int (a + (k : Nat) * c)) acc.toList := by
  have e : acc.toList.length = n := by rw [Array.length_toList]; exact h.1
  rw [← e]
  refine vals_of_get acc.toList (fun k => V.int (a + (k : Nat) * c)) fun j u hj => ?_
  obtain ⟨t, rfl⟩ := h.2 j u (by rw [← hj, Array.getElem?_toList])
  exact ⟨t, rfl⟩
theorem pe_listRg3 {a b c : Expr} {ta : TA} {p p2 pos pos2 : Pos} (hc : X.calm = true) (hg : Gl X "list") (hm : X.mg "list" = none) (hg2 : Gl X "range") (hm2 : X.mg "range" = none) (ha : PA X [a, b, c] ta)
    (na : starEach [(.Call (.Name "range" p2) [a, b, c] [] pos2)] X.env = (false, eval (.Call (.Name "range" p2) [a, b, c] [] pos2) X.env) :: starEach [] X.env := by rfl)
    (hs : starEach [a, b, c] X.env = (false, eval a X.env) :: starEach [b, c] X.env := by rfl) (hpl : (backTo pos2 (starEach [b, c] X.env)).any (·.1) = false := by rfl) :
    PE X (.Call (.Name "list" p) [.Call (.Name "range" p2) [a, b, c] [] pos2] [] pos) (tLstRg3 ta) := by
  refine ⟨fun pins s σ H Q I h => ?_⟩
  have inner : wpAny (model X.prog X.w) X.A (eval (.Call (.Name "range" p2) [a, b, c] [] pos2) X.env) (fun x s' => ∃ r i j k n t u v H', x = .ref r ∧ IsRange s'.heap r i j k t u v ∧ Inv X pins σ H' s' ∧ RgC i j k n ∧ n ≤ 2 ^ 24 ∧
      ∀ q, H' q = none → Q (.ref q) (upd H' q (.lst ((List.range n).map fun z => V.int (i + (z : Nat) * k))))) X.xe s := by
    refine Call_ (ld_blt I hg2 hm2 boot_range (PyProof.Rows.callWith_type1 (thn (ha.run pos2 pins s σ H _ I h) fun us s1 ⟨vs, H1, I1, r1, q1⟩ => ?_) hs hpl))
    obtain ⟨i, j, k, n, e, ⟨c0, c1, c2, c3⟩, hn, q⟩ := q1
    subst e
    cases r1 with
    | cons r rr =>
      cases rr with
      | cons r' rr =>
        cases rr with
        | cons r'' rr =>
          cases rr
          obtain ⟨t, rfl⟩ := r
          obtain ⟨t', rfl⟩ := r'
          obtain ⟨t'', rfl⟩ := r''
          refine call_range_3 c0 ?_ (.inl (PyProof.noPylong_small c1))
          exact ⟨_, i, j, k, n, _, _, _, H1, rfl, IsRange.new _ _ _ _ _ _ _, I1.kept (t' := s1.toks) fun b o e => Heap.get?_push_of_some _ e, ⟨c0, c1, c2, c3⟩, hn, q⟩
  refine Call_ (ld_blt I hg hm boot_list (PyProof.Rows.callWith_type1 (args_cons (thn inner fun x s1 ⟨r, i, j, k, n, t, u, v, H1, ex, hr, I1, ok, hn, q⟩ => args_nil ?_) na) na))
  subst ex
  obtain ⟨c0, c1, c2, c3⟩ := ok
  refine call_list_range (n := n) (I1.ok.hd hc) hr c2 c3 hn fun h' tk acc c' hk e' hi => ?_
  refine ⟨.ref s1.heap.objs.size, upd H1 s1.heap.objs.size (.lst ((List.range n).map fun z => V.int (i + (z : Nat) * k))), I1.laid hk (Nat.le_refl _) (show ObjOk X.prog X.w _ _ _ (.lst _) from ⟨?_, acc.toList, c', vals_rgC hi, ?_⟩), rfl, q _ (I1.hok.fresh (Nat.le_refl _))⟩
  · rw [List.length_map, List.length_range, sizeLine_eq]; omega
  · rw [Array.toArray_toList]; exact e'
/-- a range that is at hand -/
def iRngV (te : TE) : TI := fun σ H R => te σ H fun x H1 => ∃ r lo hi, x = .ref r ∧ H1 r = some (.rng lo hi) ∧ (-(2 ^ 62) ≤ lo ∧ lo < 2 ^ 62 ∧ -(2 ^ 62) ≤ hi ∧ hi < 2 ^ 62) ∧ R (Itr lo (hi - lo).toNat) H1
theorem pi_rngV {e : Expr} {te : TE} (he : PE X e te) : PI X tg e (iRngV te) := by
  refine ⟨fun pins s σ H R I h => ?_⟩
  refine thn (he.run pins s σ H _ I h) fun v s1 ⟨x, H1, I1, r1, q1⟩ => ?_
  obtain ⟨r, lo, hi, rfl, hr, ⟨h1, h2, h3, h4⟩, q⟩ := q1
  cases r1
  obtain ⟨t, u, v, eo⟩ := I1.hok r _ hr
  refine wpAny_pyIter_range (t := t) (u := u) (v := v) eo (small_one h1 h2 h3 h4) ?_
  refine ⟨s1.heap.objs.size, [s1.heap.objs.size], _, _, H1, rfl, I1.kept (t' := s1.toks) fun b o e => Heap.get?_push_of_some _ e, turn_range _ lo (hi - lo).toNat, ?_, fun b hb => ?_, q⟩
  · have e1 : lo + ((0 : Nat) : Int) * 1 = lo := by simp
    have e2 : (((hi - lo).toNat : Nat) : Int) - ((0 : Nat) : Int) = Builtin.Range.rangeSize lo hi 1 := by rw [rangeSize_one]; split <;> omega
    show IsRangeIter _ _ (lo + ((0 : Nat) : Int) * 1) ((((hi - lo).toNat : Nat) : Int) - ((0 : Nat) : Int)) 1
    rw [e1, e2]
    exact Heap.get?_push_size _ rfl
  · have e : b = s1.heap.objs.size := by simpa using hb
    subst e
    exact I1.fpOk (Nat.le_refl _) (I1.hok.fresh (Nat.le_refl _))
end
theorem rgC_two {b d : Nat} (hd : 2 ≤ d) (h : b + d < 2 ^ 30) : RgC (b : Int) (((b + d : Nat) : Int) - 1) 2 (d / 2) := by
  have e : Builtin.Range.rangeSize (b : Int) (((b + d : Nat) : Int) - 1) 2 = ((d / 2 : Nat) : Int) := by
    unfold Builtin.Range.rangeSize
    rw [if_pos (by decide), if_pos (by omega)]
    omega
  refine ⟨by decide, by decide, ?_, e⟩
  unfold Builtin.Range.small
  rw [e]
  simp only [Builtin.Range.rangeFitsLong, Bool.and_eq_true, Bool.or_eq_true, decide_eq_true_eq, beq_iff_eq, show (2 : Int) > 0 by decide, if_true]
  omega
end Loc

set_option linter.all false
/-! pieces of a row: peaks, stretches, cuts -/
namespace M10
def pk (ms : List Nat) (i : Nat) : Bool := match ms[i - 1]?, ms[i]?, ms[i + 1]? with
  | some a, some b, some c => decide (a < b) && decide (c < b)
  | _, _, _ => false
def pks (ms : List Nat) : List Nat := (List.range' 2 (ms.length - 3)).filter (pk ms)
theorem pk_no {ms : List Nat} {i : Nat} (h : pk ms i = true) : pk ms (i + 1) = false := by
  unfold pk at h ⊢
  rw [Nat.add_sub_cancel]
  cases h0 : ms[i - 1]? with
  | none => rw [h0] at h; exact absurd h (by simp)
  | some a =>
    cases h1 : ms[i]? with
    | none => simp [h0, h1] at h
    | some b =>
      cases h2 : ms[i + 1]? with
      | none => simp
      | some c =>
        rw [h0, h1, h2] at h
        simp only [Bool.and_eq_true, decide_eq_true_eq] at h
        cases h3 : ms[i + 1 + 1]? with
        | none => simp
        | some d =>
          simp only [Bool.and_eq_false_iff, decide_eq_false_iff_not]
          omega
def Gap (n : Nat) : Nat → List Nat → Prop
  | b, [] => b + 2 ≤ n
  | b, t :: r => b + 2 ≤ t ∧ Gap n t r
theorem gap_filter {p : Nat → Bool} (hp : ∀ i, p i = true → p (i + 1) = false) (n : Nat) : ∀ k s b, (b + 2 ≤ s ∨ (b + 1 ≤ s ∧ p s = false)) → s + k + 1 ≤ n → b + 2 ≤ n → Gap n b ((List.range' s k).filter p)
  | 0, s, b, _, _, h => h
  | k + 1, s, b, h1, h2, h3 => by
    rw [List.range'_succ]
    cases e : p s with
    | true =>
      rw [List.filter_cons_of_pos e]
      refine ⟨?_, gap_filter hp n k (s + 1) s (.inr ⟨Nat.le_refl _, hp s e⟩) (by omega) (by omega)⟩
      rcases h1 with h1 | ⟨_, h1⟩
      · exact h1
      · rw [e] at h1; cases h1
    | false =>
      rw [List.filter_cons_of_neg (by rw [e]; simp)]
      exact gap_filter hp n k (s + 1) b (.inl (by rcases h1 with h1 | h1 <;> omega)) (by omega) h3
theorem pks_gap {ms : List Nat} (h : 2 ≤ ms.length) : Gap ms.length 0 (pks ms) := by
  unfold pks
  by_cases z : ms.length ≤ 3
  · rw [show ms.length - 3 = 0 by omega]
    exact h
  · exact gap_filter (p := pk ms) (fun i h => pk_no h) ms.length (ms.length - 3) 2 0 (.inl (Nat.le_refl _)) (by omega) h
/-- the pieces of the stretch of d nodes from b on -/
def str : Nat → Nat → List (Nat × Nat)
  | d + 4, b => (b, b + 2) :: str (d + 2) (b + 2)
  | d, b => [(b, b + d)]
def stz (z : Nat × Nat) : List (Nat × Nat) := str (z.2 - z.1) z.1
def sts (n : Nat) : Nat → List Nat → List (Nat × Nat)
  | b, [] => [(b, n)]
  | b, t :: r => (b, t) :: sts n t r
def pcs (n : Nat) (tops : List Nat) : List (Nat × Nat) := (sts n 0 tops).flatMap stz
theorem sts_fst (n : Nat) : ∀ b tops, (sts n b tops).map (·.1) = b :: tops
  | b, [] => rfl
  | b, t :: r => by rw [sts, List.map_cons, sts_fst n t r]
theorem sts_snd (n : Nat) : ∀ b tops, (sts n b tops).map (·.2) = tops ++ [n]
  | b, [] => rfl
  | b, t :: r => by rw [sts, List.map_cons, sts_snd n t r]; rfl
theorem sts_gap {n : Nat} : ∀ {b : Nat} {tops : List Nat}, Gap n b tops → ∀ z ∈ sts n b tops, z.1 + 2 ≤ z.2 ∧ z.2 ≤ n
  | b, [], h, z, hz => by
    have : z = (b, n) := by simpa [sts] using hz
    rw [this]
    exact ⟨h, Nat.le_refl _⟩
  | b, t :: r, h, z, hz => by
    have le : ∀ {b : Nat} {r : List Nat}, Gap n b r → b ≤ n := by
      intro b r
      induction r generalizing b with
      | nil => intro h; have : b + 2 ≤ n := h; omega
      | cons t r ih => intro h; have := ih h.2; have := h.1; omega
    rcases List.mem_cons.mp hz with e | hz
    · rw [e]
      exact ⟨h.1, le h.2⟩
    · exact sts_gap h.2 z hz
def Cont : Nat → Nat → List (Nat × Nat) → Prop
  | b, n, [] => b = n
  | b, n, z :: r => z.1 = b ∧ b + 2 ≤ z.2 ∧ z.2 ≤ b + 3 ∧ Cont z.2 n r
theorem str_cont : ∀ d b, 2 ≤ d → Cont b (b + d) (str d b)
  | 0, _, h => by omega
  | 1, _, h => by omega
  | 2, b, _ => ⟨rfl, Nat.le_refl _, by show b + 2 ≤ b + 3; omega, rfl⟩
  | 3, b, _ => ⟨rfl, by show b + 2 ≤ b + 3; omega, Nat.le_refl _, rfl⟩
  | d + 4, b, _ => by
    refine ⟨rfl, Nat.le_refl _, by show b + 2 ≤ b + 3; omega, ?_⟩
    have := str_cont (d + 2) (b + 2) (by omega)
    rw [show b + (d + 4) = b + 2 + (d + 2) by omega]
    exact this
theorem Cont.app : ∀ {xs ys : List (Nat × Nat)} {b t n : Nat}, Cont b t xs → Cont t n ys → Cont b n (xs ++ ys)
  | [], _, b, t, n, h, k => by have h : b = t := h; rw [h]; exact k
  | z :: r, ys, b, t, n, h, k => ⟨h.1, h.2.1, h.2.2.1, Cont.app h.2.2.2 k⟩
theorem sts_cont {n : Nat} : ∀ {b : Nat} {tops : List Nat}, Gap n b tops → Cont b n ((sts n b tops).flatMap stz)
  | b, [], h => by
    have h : b + 2 ≤ n := h
    show Cont b n (stz (b, n) ++ [])
    rw [List.append_nil]
    have := str_cont (n - b) b (by omega)
    rw [show b + (n - b) = n by omega] at this
    exact this
  | b, t :: r, h => by
    rw [sts, List.flatMap_cons]
    have := str_cont (t - b) b (by have := h.1; omega)
    rw [show b + (t - b) = t by have := h.1; omega] at this
    exact Cont.app this (sts_cont h.2)
theorem Cont.ends : ∀ {r : List (Nat × Nat)} {z : Nat × Nat} {b n : Nat}, Cont b n (z :: r) → r.map (·.1) ++ [n] = (z :: r).map (·.2)
  | [], z, b, n, h => by have := h.2.2.2; have this : z.2 = n := this; simp [this]
  | y :: r, z, b, n, h => by
    have := Cont.ends (r := r) (z := y) h.2.2.2
    have e : y.1 = z.2 := h.2.2.2.1
    rw [List.map_cons, List.cons_append, this, e]
    rfl
theorem Cont.bnd : ∀ {r : List (Nat × Nat)} {b n : Nat}, Cont b n r → b ≤ n ∧ ∀ z ∈ r, z.1 + 2 ≤ z.2 ∧ z.2 ≤ z.1 + 3 ∧ z.2 ≤ n
  | [], b, n, h => ⟨Nat.le_of_eq h, fun z hz => nomatch hz⟩
  | y :: r, b, n, h => by
    have k := Cont.bnd h.2.2.2
    have := h.1
    have := h.2.1
    have := h.2.2.1
    refine ⟨by omega, fun z hz => ?_⟩
    rcases List.mem_cons.mp hz with e | hz
    · rw [e]; omega
    · exact k.2 z hz
theorem Cont.len : ∀ {r : List (Nat × Nat)} {b n : Nat}, Cont b n r → b + 2 * r.length ≤ n
  | [], b, n, h => Nat.le_of_eq h
  | y :: r, b, n, h => by
    have k := Cont.len h.2.2.2
    have := h.2.1
    rw [List.length_cons]
    omega
theorem str_fst : ∀ d b, 2 ≤ d → (str d b).map (·.1) = (List.range (d / 2)).map fun k => b + k * 2
  | 0, _, h => by omega
  | 1, _, h => by omega
  | 2, b, _ => rfl
  | 3, b, _ => rfl
  | d + 4, b, _ => by
    have := str_fst (d + 2) (b + 2) (by omega)
    rw [str, List.map_cons, this, show (d + 4) / 2 = (d + 2) / 2 + 1 by omega, List.range_succ_eq_map, List.map_cons, List.map_map]
    have e : (List.map (fun k => b + 2 + k * 2) (List.range ((d + 2) / 2))) = List.map ((fun k => b + k * 2) ∘ Nat.succ) (List.range ((d + 2) / 2)) := List.map_congr_left fun k _ => by
      show b + 2 + k * 2 = b + (k + 1) * 2
      omega
    rw [e]
    simp
end M10

set_option Elab.async false
set_option linter.all false
set_option maxRecDepth 100000
namespace Loc
open PySem PySem.Spec PyProof.Rows L2
/-! ### l.extend(t), t a tuple -/
theorem ext_tup (l b : Addr) (xs ys : Array Value) (n n2 : Nat) (dd : Option Addr) (sl : Array (Option Value)) (h1 : ¬ (!xs.isEmpty && Builtin.List.listTooLong (xs.size + ys.size)) = true) (h2 : xs.size ≤ sizeLine) (h3 : xs.size + ys.size ≤ sizeLine + 1) :
    Meets (Builtin.«list.extend» ⟨[.ref l, .ref b], []⟩) (fun _ R s => s.heap.get? l = some { cls := .type "list", dict := none, data := .seq xs n, slots := #[] } ∧ s.heap.get? b = some { cls := .type "tuple", dict := dd, data := .seq ys n2, slots := sl } ∧
      R (.ok (.ret Value.none)) { s with heap := s.heap.update l (Obj.mapSeq fun x => x ++ ys), toks := s.toks }) := .of_wp fun prog w A R s h => by
  obtain ⟨hp, g, d, tk, os⟩ := s
  obtain ⟨hl, hb, h⟩ := h
  have f2 := sub_tuple_tuple
  have f3 := sub_list_list
  have f4 := sub_tuple_list
  have f5 := sub_list_tuple
  have z : (xs ++ ys).size ≤ sizeLine + 1 := by rw [Array.size_append]; exact h3
  wp_walk using (wpAny_updateSeq hl rfl (hz := h2) (_hz' := z)), wpAny_loadPart' hl, wpAny_loadPart' hb
  exact ⟨_, rfl, h⟩
section
variable {X : Cx}
def rExtendT (K : PySem.W.Frag) : V → List V → Hp → VK → Prop := fun x vs H Q => ∃ l b xs zs, x = .ref l ∧ vs = [.ref b] ∧ H l = some (.lst xs) ∧ SqT K H b zs ∧ xs.length + zs.length ≤ sizeLine ∧ Q .non (upd H l (.lst (xs ++ zs)))
theorem mt_extendT : MtM X "list.extend" (rExtendT X.K) := by
  intro pins s σ H x vs v us Q I rx rv h
  obtain ⟨l, b, xs, zs, rfl, rfl, hH, hB, hz, q⟩ := h
  cases rx
  obtain ⟨u, rfl, ru⟩ := rv.one
  cases ru
  obtain ⟨z, its, n, r, hl, e⟩ := I.lstM hH
  obtain ⟨its2, r2, p2, z2⟩ := I.tuple hB
  have hl2 := r2.length
  have hsz : its.toArray.size + its2.toArray.size ≤ sizeLine := by rw [List.size_toArray, List.size_toArray]; omega
  have hlong : ¬ (!its.toArray.isEmpty && Builtin.List.listTooLong (its.toArray.size + its2.toArray.size)) = true := by
    rw [notLongL hsz, Bool.and_false]
    exact Bool.false_ne_true
  obtain ⟨⟨cls, dd, data, sl⟩, ho, hc, n2, hd⟩ := id p2
  simp only at hc hd
  subst hc hd
  refine call_meets F.slot_list_extend ⟨_, e, rfl⟩ F.entry_list_extend (F.args_list_extend_2 _ _)
    (ext_tup l b its.toArray its2.toArray n n2 dd sl hlong (by rw [List.size_toArray]; omega) (by omega)) ⟨e, ho, ?_⟩
  refine ⟨.non, _, I.lset (its' := its ++ its2) hH e (by simp) (r.append r2) ?_, rfl, q⟩
  rw [List.length_append]
  omega
end
end Loc

set_option Elab.async false
set_option linter.all false
set_option maxRecDepth 100000
set_option maxHeartbeats 4000000
namespace Loc
open PySem PySem.Spec PyProof.Rows L2
theorem tuple_mul1 (l : Addr) (items : Array Value) (n : Nat) (dd : Option Addr) (sl : Array (Option Value)) (u : Tok) :
    Meets (Builtin.«tuple.__mul__» ⟨[.ref l, .int 1 u], []⟩) (fun _ R s => s.heap.get? l = some { cls := .type "tuple", dict := dd, data := .seq items n, slots := sl } ∧ R (.ok (.ret (Value.ref l))) s) :=
  .of_wp fun prog w A R s h => by
    obtain ⟨hp, g, d, tk, os⟩ := s
    obtain ⟨hl, h⟩ := h
    have f1 := AutoSeq1.idx_int
    wp_walk using wpAny_loadPart' hl
    exact ⟨_, rfl, h⟩
def rRepT1 (K : PySem.W.Frag) : R2 := fun x y H Q => ∃ l k xs, x = .ref l ∧ y = .int k ∧ SqT K H l xs ∧ xs ≠ [] ∧ 1 ≤ k ∧ k ≤ 1000 ∧ xs.length ≤ 1000 ∧ ∀ H' p, Same H H' → SqT K H' p (List.replicate k.toNat xs).flatten → Q (.ref p) H'
theorem op_repT1 {X : Cx} : OpR X (binaryOp .Mult) (rRepT1 X.K) := by
  intro pins s σ H x y v u Q I rx ry h
  obtain ⟨l, k, xs, rfl, rfl, hT, hne, h1, h2, hz, q⟩ := h
  by_cases k1 : k = 1
  · subst k1
    cases rx
    obtain ⟨t, rfl⟩ := ry
    obtain ⟨its, r, ⟨⟨cls, dd, data, sl⟩, ho, hc, n, hd⟩, hs⟩ := I.tuple hT
    simp only at hc hd
    subst hc hd
    refine wpAny_binaryOp_repeat_ref (T := "tuple") (U := "int") (by decide) ⟨_, ho, rfl⟩ (fun s' => typeIs_int s' 1 t) noFill_tuple_mul PySem.F.fills_int_mul PySem.F.slot_int_rmul repeat_tuple PySem.F.slot_int_index.lookup
      (call_meets PySem.F.slot_int_rmul (typeIs_int s 1 t) PySem.F.entry_int_rmul (PySem.F.args_int_rmul_2 _ _) (int_rmul_tuple 1 t l its.toArray n dd sl)
        ⟨ho, rfl, ⟨_, ho, rfl⟩, call_meets PySem.F.slot_tuple_mul ⟨_, ho, rfl⟩ PySem.F.entry_tuple_mul (PySem.F.args_tuple_mul_2 _ _) (tuple_mul1 l its.toArray n dd sl t) ⟨ho, ?_⟩⟩)
    refine ⟨.ref l, H, I, rfl, q H l (Same.refl H) ?_⟩
    rw [show (1 : Int).toNat = 1 from rfl]
    simpa using hT
  · exact op_repT pins s σ H _ _ v u Q I rx ry ⟨l, k, xs, rfl, rfl, hT, hne, by omega, h2, hz, fun p hp => q _ p (sameN hp) (.inl (.inl upd_same))⟩
end Loc

set_option Elab.async false
set_option linter.all false
set_option maxRecDepth 100000
set_option maxHeartbeats 4000000
namespace Loc
open PySem PySem.Spec PyProof.Rows L2
open AutoSeq1 (wpAny_loadPart')
/-! ### enumerate(t), t a tuple -/
theorem meets_enum_newT (l : Addr) (items : Array Value) (n : Nat) (dct : Option Addr) (sl : Array (Option Value)) :
    Meets (Builtin.«enumerate.__new__» ⟨[.type "enumerate", .ref l], []⟩) (fun _ R s => s.heap.get? l = some { cls := .type "tuple", dict := dct, data := .seq items n, slots := sl } ∧
      R (.ok (.ret (.ref (s.heap.push { cls := .type "tuple_iterator", data := .fields #[.ref l, .int 0 0] }).objs.size)))
        { s with heap := (s.heap.push { cls := .type "tuple_iterator", data := .fields #[.ref l, .int 0 0] }).push { cls := .type "enumerate", data := .fields #[.none, .bool false, .ref s.heap.objs.size, rawInt 0, .none, .none] } }) :=
  .of_wp fun prog w A R s h => by
    obtain ⟨hp, g, d, tk, os⟩ := s
    obtain ⟨hl, h⟩ := h
    have hsub := sub_enumerate
    have hL : Heap.IsTuple (Shared.heap ⟨hp, g, d, tk, os⟩) l items := ⟨_, hl, rfl, n, rfl⟩
    wp_walk using wpAny_loadPart' hl
    refine wpAny_stack_any fun st => wpAny_pure ?_
    split
    · rename_i c _ _ _ _ _
      cases (c == Value.type "enumerate")
      · wp_walk using wpAny_loadPart' hl, wpAny_pyIter_tuple hL
        exact ⟨_, rfl, h⟩
      · wp_walk using wpAny_loadPart' hl, wpAny_pyIter_tuple hL
        exact ⟨_, rfl, h⟩
    · wp_walk using wpAny_loadPart' hl, wpAny_pyIter_tuple hL
      exact ⟨_, rfl, h⟩
section
variable {prog : Program} {w : World} {A : Around} {E : Value → Shared → Prop} {s : Shared}
theorem call_enum_tup {l : Addr} {items : Array Value} {Q : Value → Shared → Prop} (hL : s.heap.IsTuple l items)
    (h : ∀ h', IsEnum h' (s.heap.objs.size + 1) s.heap.objs.size 0 .none → h'.IsTupleIter s.heap.objs.size l 0 → h'.objs.size = s.heap.objs.size + 2 →
      (∀ b o, s.heap.get? b = some o → h'.get? b = some o) → Q (.ref (s.heap.objs.size + 1)) { s with heap := h' }) :
    wpAny (model prog w) A (call (.type "enumerate") [.ref l]) Q E s := by
  obtain ⟨⟨c, dct, dt, sl⟩, hl, hc, n, hd⟩ := hL
  replace hc : c = .type "tuple" := hc
  replace hd : dt = .seq items n := hd
  subst hc hd
  refine callType_new PySem.F.called_enumerate (by decide) (PySem.F.typeCall_enumerate_1 _) (PySem.F.newCall_enumerate_1 _) (fun obj => PySem.F.args_object_init_2 obj _) PySem.F.entry_enumerate_new
    (meets_enum_newT l items n dct sl) ⟨hl, ?_⟩
  have hz : (s.heap.push { cls := .type "tuple_iterator", data := .fields #[.ref l, .int 0 0] }).objs.size = s.heap.objs.size + 1 := Heap.size_push ..
  show _ ∧ _
  rw [hz]
  have he : IsEnum ((s.heap.push { cls := .type "tuple_iterator", data := .fields #[.ref l, .int 0 0] }).push
      { cls := .type "enumerate", data := .fields #[.none, .bool false, .ref s.heap.objs.size, rawInt 0, .none, .none] }) (s.heap.objs.size + 1) s.heap.objs.size 0 .none := by
    have := Heap.get?_push_size (s.heap.push { cls := .type "tuple_iterator", data := .fields #[.ref l, .int 0 0] })
      (o := { cls := .type "enumerate", data := .fields #[.none, .bool false, .ref s.heap.objs.size, rawInt 0, .none, .none] }) rfl
    rw [hz] at this; exact this
  refine ⟨⟨_, he, rfl⟩, h _ he ⟨_, Heap.get?_push_of_some _ (Heap.get?_push_size _ rfl), rfl, rfl⟩ (by rw [Heap.size_push, hz]) fun b o x => Heap.get?_push_of_some _ (Heap.get?_push_of_some _ x)⟩
end
theorem enumT_end {prog : Program} {w : World} {A : Around} {E : Value → Shared → Prop} {s : Shared} {e it l : Addr} {i : Nat} {items : Array Value} {old : Value} {Q : Option Value → Shared → Prop} (hh : A.handled = none)
    (he : IsEnum s.heap e it i old) (hit : s.heap.IsTupleIter it l i) (hl : s.heap.IsTuple l items) (hx : items[i]? = none)
    (hQ : ∀ h', Heap.ExtBut it s.heap h' → Q none { s with heap := h' }) : wpAny (model prog w) A (pyNext (.ref e)) Q E s := by
  have hT : s.TypeIs (.ref e) "enumerate" := ⟨_, he, rfl⟩
  unfold pyNext
  refine wpAny_bind (wpAny_attempt (wpAny_callSpecial?_slot (name := Str.ofString "__next__") hT PySem.F.slot_enumerate_next
    (wpAny_call_entry PySem.F.slot_enumerate_next hT PySem.F.entry_enumerate_next ?_ (PySem.F.args_enumerate_next_1 _))))
  show wpAny _ _ (field (.ref e) 2 >>= _) _ _ _
  refine wpAny_bind (wpAny_field he rfl (x := .ref it) rfl ?_)
  refine wpAny_bind (wpAny_nextOf_tuple_end hh hit hl hx fun h' x he' hx' => ?_)
  obtain ⟨o, ho, hc⟩ := hx'
  refine wpAny_bind (wpAny_isInstance (T := "StopIteration") (b := true) ⟨o, ho, hc⟩ isSubtype_stop ?_)
  exact wpAny_pure (hQ _ he')
/-- the tuple at a, each item in a new pair -/
def IteT (K : PySem.W.Frag) (a : Addr) : It :=
  ⟨fun i H => ∃ (xs : List V) (x : V), SqT K H a xs ∧ xs[i]? = some x, fun i H v H' => ∃ T x, v = .ref T ∧ H T = none ∧ H' = upd H T (.tup [.int (i : Nat), x]) ∧ ∀ xs, SqT K H a xs → xs[i]? = some x, fun i H => ∃ xs : List V, SqT K H a xs ∧ xs.length ≤ i⟩
theorem turn_enumT {P : Program} {w : World} {K : PySem.W.Frag} {elts : List Expr} {kk : Nat} {tpos : Pos} (a e it : Addr) :
    Turn P w K (.Tuple elts kk tpos) (IteT K a) [e, it] e (fun i h => (∃ old, IsEnum h e it ((i : Nat) : Int) old) ∧ h.IsTupleIter it a i ∧ e ≠ it ∧ a ≠ it ∧ a ≠ e) where
  mem := by simp
  obj := fun i h st b hb => by
    obtain ⟨⟨old, he⟩, ⟨o, ho, hc, hd⟩, _⟩ := st
    have e' : b = e ∨ b = it := by simpa using hb
    rcases e' with z | z
    · rw [z]; exact ⟨_, he, fun v q => nomatch q⟩
    · rw [z]; exact ⟨o, ho, fun v q => by rw [hd] at q; cases q⟩
  keep := fun i h h' st k => let ⟨⟨old, he⟩, hi, hne⟩ := st; ⟨⟨old, k e (by simp) _ he⟩, hi.at fun o q => k it (by simp) o q, hne⟩
  item := by
    intro X hP hw hK hc i pins s σ H E I hf st hg
    subst hP hw hK
    obtain ⟨⟨old, he⟩, hit, hne, hai, hae⟩ := st
    obtain ⟨xs, x, hq, hx⟩ := hg
    obtain ⟨its, rv, p, hz⟩ := I.tuple hq
    obtain ⟨u, hu, ru⟩ := rv.get hx
    have hel : e < s.heap.objs.size := Heap.lt_size he
    have hil : it < s.heap.objs.size := by obtain ⟨_, q, _⟩ := hit; exact Heap.lt_size q
    have pT : s.heap.IsTuple a its.toArray := p
    have hlt : i < its.toArray.size := by
      have := (List.getElem?_eq_some_iff.mp hu).1
      simpa using this
    refine wpAny_pyNext_enum_itemD (Draws.tuple (A := X.A.in1) (by first | exact I.ok.hd hc | exact (I.ok.hd hc)) it a hai its.toArray) he ⟨hit, pT⟩ hlt hne (by simp [hne, hae.symm]) fun x' h' tk hx' ho hst' hT hsz hk => ?_
    have ex : x' = u := by
      have : its.toArray[i]? = some u := by simpa using hu
      exact Option.some.inj (hx'.symm.trans this)
    subst ex
    refine ⟨_, rfl, wpAny_letOwnedTupleGo_enum (s := { s with heap := h', toks := tk + 1 }) ho fun h'' he' sb => ?_⟩
    have hT2 : h''.get? s.heap.objs.size = some { cls := .type "tuple", data := .seq #[.int i tk, x'] } := (sb.2 _ (Nat.ne_of_gt hel)).trans hT
    have new : ObjOk X.prog X.w (upd H s.heap.objs.size (.tup [.int (i : Nat), x])) h'' s.heap.objs.size (.tup [.int (i : Nat), x]) :=
      ⟨by show 2 ≤ sizeLine; decide, [.int i tk, x'], .cons ⟨_, rfl⟩ (.cons ru .nil), ⟨_, hT2, rfl, _, rfl⟩⟩
    have I1 : Inv X pins σ (upd H s.heap.objs.size (.tup [.int (i : Nat), x])) { s with heap := h'', toks := tk + 1 } :=
      I.turnedNew (ch := [e, it]) (fun b ob hb q => (sb.2 b (fun z => hb (by simp [z]))).trans (hk b ob (fun z => hb (by simp [z])) (fun z => hb (by simp [z])) q)) hf (Nat.le_refl _) new
    refine ⟨.ref s.heap.objs.size, _, I1, rfl, ⟨_, x, rfl, I.hok.fresh (Nat.le_refl _), rfl, fun ys hy => by rw [I.tuple_inj hy hq]; exact hx⟩, ⟨⟨x', ?_⟩, hst'.1.at fun o q => (sb.2 it (Ne.symm hne)).trans q, hne, hai, hae⟩, fun b hb => ?_⟩
    · have e1 : ((i + 1 : Nat) : Int) = (i : Int) + 1 := by omega
      rw [e1]; exact he'
    · have hb' : b < s.heap.objs.size := by
        have e' : b = e ∨ b = it := by simpa using hb
        rcases e' with z | z
        · rw [z]; exact hel
        · rw [z]; exact hil
      rw [upd_ne (Nat.ne_of_lt hb')]
      exact (hf b hb).1
  done := by
    intro X hP hw hK hc i pins s σ H E I hf st hg
    subst hP hw hK
    obtain ⟨⟨old, he⟩, hit, hne, hai, hae⟩ := st
    obtain ⟨xs, hq, hx⟩ := hg
    obtain ⟨its, rv, p, hz⟩ := I.tuple hq
    obtain ⟨f0, f1, f2, f3, f4, f5⟩ := hf it (by simp)
    have hl := rv.length
    have pT : s.heap.IsTuple a its.toArray := p
    exact enumT_end (I.ok.hd hc) he hit pT (by simp; omega) fun h' eb => ⟨rfl, I.turned (t' := s.toks) (fun b o hb q => eb b o hb q) f0 f1 f3 f4 f5⟩
  self := fun A i s Q E st h => let ⟨⟨_, he⟩, _⟩ := st; wpAny_pyIter_enum he h
def iEnumT (K : PySem.W.Frag) (ta : TA) : TI := fun σ H R => ta σ H fun vs H1 => ∃ a xs, vs = [.ref a] ∧ SqT K H1 a xs ∧ R (IteT K a) H1
theorem pi_enumT {X : Cx} {e : Expr} {ta : TA} {p pos tpos : Pos} {elts : List Expr} {kk : Nat} (hg : Gl X "enumerate") (hm : X.mg "enumerate" = none) (ha : PA X [e] ta) (hs : starEach [e] X.env = [(false, eval e X.env)] := by rfl) :
    PI X (.Tuple elts kk tpos) (.Call (.Name "enumerate" p) [e] [] pos) (iEnumT X.K ta) := by
  refine ⟨fun pins s σ H R I h => ?_⟩
  refine Call_ (ld_blt I hg hm boot_enumerate (PyProof.Rows.callWith_type1 (thn (ha.run pos pins s σ H _ I h) fun us s1 ⟨vs, H1, I1, r1, q1⟩ => ?_) hs rfl))
  obtain ⟨a, xs, ex, hq, q⟩ := q1
  subst ex
  cases r1 with
  | cons r rr =>
    cases rr
    cases r
    obtain ⟨its, rv, p', hz⟩ := I1.tuple hq
    have pT : s1.heap.IsTuple a its.toArray := p'
    have al : a < s1.heap.objs.size := by obtain ⟨_, q, _⟩ := pT; exact Heap.lt_size q
    refine call_enum_tup pT fun h' he hit hsz hk => wpAny_pyIter_enum he ?_
    have I2 : Inv X pins σ H1 { s1 with heap := h' } := I1.kept (t' := s1.toks) hk
    refine ⟨s1.heap.objs.size + 1, [s1.heap.objs.size + 1, s1.heap.objs.size], _, _, H1, rfl, I2, turn_enumT a (s1.heap.objs.size + 1) s1.heap.objs.size, ⟨⟨.none, he⟩, hit, Nat.succ_ne_self _, Nat.ne_of_lt al, Nat.ne_of_lt (Nat.lt_succ_of_lt al)⟩, fun b hb => ?_, q⟩
    have e' : b = s1.heap.objs.size + 1 ∨ b = s1.heap.objs.size := by simpa using hb
    have hle : s1.heap.objs.size ≤ b := by
      rcases e' with z | z
      · rw [z]; exact Nat.le_add_right _ _
      · rw [z]; exact Nat.le_refl _
    exact I1.fpOk hle (I1.hok.fresh hle)
/-- for i, x in enumerate(t), t a tuple that stays -/
theorem for_enumT {K : PySem.W.Frag} {a : Addr} {xs : List V} {g : TG} {tb : TS} {D : Ends} {σ : L2.St} {H : Hp} (Pv : Nat → L2.St → Hp → Prop) (h0 : Pv 0 σ H) (hl : ∀ i σ H, Pv i σ H → SqT K H a xs)
    (hs : ∀ i x T σ H1, xs[i]? = some x → Pv i σ H1 → H1 T = none → g (.ref T) σ (upd H1 T (.tup [.int (i : Nat), x])) fun σ2 H2 => tb { nx := Pv (i + 1), rt := D.rt, bk := D.nx, ct := Pv (i + 1) } σ2 H2)
    (hd : ∀ i σ H', Pv i σ H' → xs.length ≤ i → D.nx σ H') :
    ∃ W : Nat → Nat → L2.St → Hp → Prop, (∃ m, W 0 m σ H) ∧ ∀ i m σ H, W i m σ H →
      ((IteT K a).stop i H ∧ D.nx σ H) ∨ ((IteT K a).go i H ∧ ∃ N : L2.St → Hp → Prop, (∀ σ' H', N σ' H' → ∃ m', m' < m ∧ W (i + 1) m' σ' H') ∧ ∀ x H', (IteT K a).yld i H x H' → g x σ H' fun σ2 H2 => tb { nx := N, rt := D.rt, bk := D.nx, ct := N } σ2 H2) := by
  refine ⟨fun i m σ H => m = xs.length - i ∧ Pv i σ H, ⟨_, rfl, h0⟩, ?_⟩
  rintro i m σ H ⟨rfl, p⟩
  have k1 := hl i σ H p
  by_cases c : i < xs.length
  · obtain ⟨x, gx⟩ := get_of c
    refine .inr ⟨⟨xs, x, k1, gx⟩, Pv (i + 1), fun σ' H' p' => ⟨xs.length - (i + 1), by omega, rfl, p'⟩, fun z H' hy => ?_⟩
    obtain ⟨T, x', rfl, hT, rfl, f1⟩ := hy
    have ex : x' = x := Option.some.inj ((f1 _ k1).symm.trans gx)
    subst ex
    exact hs i _ T σ H gx p hT
  · exact .inl ⟨⟨xs, k1, by omega⟩, hd i σ H p (by omega)⟩
end Loc

set_option Elab.async false
set_option linter.all false
set_option maxRecDepth 100000
namespace Loc
open PySem PySem.Spec PyProof.Rows L2
/-! ### a call of a def that is entered while no repr is under way -/
section
variable {X : Cx} {CX : CXT} {k : Nat} {f : Addr} {fd : FuncData} {ps : List Str} {sp : Sp} {dvs : List V} {ds : List Value} {E : XK} {x : Str} {p pos : Pos} {e : Expr} {es : List Expr} {t : TA}
theorem run_fnG {pins : List (Addr × Obj)} {σ : L2.St} {H : Hp} {s : Shared} {Q : VK} {us : List Value} {vs : List V} (F : FnG X.prog X.w X.K X.mg X.base CX k f fd ps sp) (hg : X.A.guards = some []) (hr : Room k X.A) (hb : Binds X.K fd ps ds) (hd : Vals dvs ds) (hx : Passes CX X E)
    (I : Inv X pins σ H s) (r : Vals vs us) (h : sp (vs ++ dvs) H Q E) : wpAny (model X.prog X.w) X.A (call (.ref f) us) (EP X pins σ Q) X.xe s := by
  have r2 : Vals (vs ++ dvs) (us ++ ds) := r.append hd
  have hl : (us ++ ds).length = ps.length := by rw [← r2.length]; exact F.cnt h
  refine wpAny_call (codeAny_mono (F.go (out := X.stack) (ar := ⟨us, []⟩) hg hr I.env0 (hb s us I.kIn hl) r2 h) fun r s' hq => ?_)
  cases r with
  | error e => exact hx pins σ H s e s' I hq
  | ok fl =>
    cases fl with
    | ret u => exact I.after hq
    | next => exact False.elim hq
    | brk => exact False.elim hq
    | cont => exact False.elim hq
theorem pe_callG (F : FnG X.prog X.w X.K X.mg X.base CX k f fd ps sp) (gg : X.A.guards = some []) (hr : Room k X.A) (hg : Gl X x) (hm : X.mg x = some (.ref f)) (hk : PySem.W.keepIn X.K (.ref f) = true) (hb : Binds X.K fd ps ds) (hd : Vals dvs ds) (hx : Passes CX X E)
    (ha : PA X (e :: es) t) (hdb : (x == ("__debug__" : Str)) = false := by decide) (he : starEach (e :: es) X.env = (false, eval e X.env) :: starEach es X.env := by rfl) (hpl : (backTo pos (starEach es X.env)).any (·.1) = false := by rfl) :
    PE X (.Call (.Name x p) (e :: es) [] pos) (tCall sp dvs E t) := by
  refine ⟨fun pins s σ H Q I h => ?_⟩
  refine wpAny_Call_Name_kw (ld_glob I hg hm ?_ hdb)
  refine PySem.W.callWith_K (h₀ := X.base) I.ok.mod.kin hk (thn (ha.run pos pins s σ H _ I h) fun us s1 ⟨vs, H1, I1, r, q⟩ => ⟨I1.kIn, ?_⟩) he hpl
  exact run_fnG F gg hr hb hd hx I1 r q
end
/-! ### [.. for i, x in enumerate(xs)], xs a list that stays -/
theorem lc_enum {K : PySem.W.Frag} {a : Addr} {xs : List V} {g : TG} {tt : TT} {te : TE} {vs : List Nat} {σ : L2.St} {H1 : Hp} {D : Addr} {Qd : Hp → Prop} (Pv : Nat → Hp → Prop)
    (h0 : Pv 0 (upd H1 D (.lst []))) (hl : ∀ i H, Pv i H → SqL K H a xs)
    (hs : ∀ i x T H, xs[i]? = some x → Pv i H → H T = none → g (.ref T) (wipe σ vs) (upd H T (.tup [.int (i : Nat), x])) fun σ2 H2 => wipe σ2 vs = wipe σ vs ∧ tt σ2 H2 fun k H3 =>
      if k = true then te σ2 H3 fun z H4 => ∃ acc, H4 D = some (.lst acc) ∧ acc.length < sizeLine ∧ Pv (i + 1) (upd H4 D (.lst (acc ++ [z]))) else Pv (i + 1) H3)
    (hd : ∀ i H, Pv i H → xs.length ≤ i → Qd H) :
    ∃ W : Nat → Nat → Hp → Prop, (∃ m, W 0 m (upd H1 D (.lst []))) ∧ ∀ i m H, W i m H →
      ((Ite K a).stop i H ∧ Qd H) ∨ ((Ite K a).go i H ∧ ∃ Nx : Hp → Prop, (∀ H', Nx H' → ∃ m', m' < m ∧ W (i + 1) m' H') ∧ ∀ x H', (Ite K a).yld i H x H' → g x (wipe σ vs) H' fun σ2 H2 => wipe σ2 vs = wipe σ vs ∧ tt σ2 H2 fun k H3 =>
        if k = true then te σ2 H3 fun y H4 => ∃ acc, H4 D = some (.lst acc) ∧ acc.length < sizeLine ∧ Nx (upd H4 D (.lst (acc ++ [y]))) else Nx H3) := by
  refine ⟨fun i m H => m = xs.length - i ∧ Pv i H, ⟨_, rfl, h0⟩, ?_⟩
  rintro i m H ⟨rfl, p⟩
  have k1 := hl i H p
  by_cases c : i < xs.length
  · obtain ⟨x, gx⟩ := get_of c
    refine .inr ⟨⟨xs, x, k1, gx⟩, Pv (i + 1), fun H' p' => ⟨xs.length - (i + 1), by omega, rfl, p'⟩, fun z H' hy => ?_⟩
    obtain ⟨T, x', rfl, hT, rfl, f1⟩ := hy
    have ex : x' = x := Option.some.inj ((f1 _ k1).symm.trans gx)
    subst ex
    exact hs i _ T H gx p hT
  · exact .inl ⟨⟨xs, k1, by omega⟩, hd i H p (by omega)⟩
/-- a pot that stays but for others -/
theorem Pot.same {H H' : Hp} {p : Addr} {c : Nat} (h : Pot H p c) (e : Same H H') : Pot H' p c := let ⟨o, ho, po⟩ := h; ⟨o, e _ _ ho, po⟩
theorem dec_tt {α : Type} [DecidableEq α] (a : α) : decide (a = a) = true := decide_eq_true rfl
/-! ### calls by names alone -/
def kG {α : Type} (us ws : List α) : List α := match us with
  | [] => ws
  | _ => []
section
variable {X : Cx} {CX : CXT} {k : Nat} {f : Addr} {fd : FuncData} {ps ks : List Str} {sp : Sp} {E : XK} {x : Str} {p pos : Pos} {kws : List Keyword} {tk : TA} {g : List Value → List Value → List Value} {gV : List V → List V → List V}
theorem pe_callK0 (F : FnOk X.prog X.w X.K X.mg X.base CX k f fd ps sp) (hr : Room k X.A) (hg : Gl X x) (hm : X.mg x = some (.ref f)) (hk : PySem.W.keepIn X.K (.ref f) = true) (hb : KBinds X.K fd ps ks g gV) (hx : Passes CX X E)
    (hkw : PK X kws tk) (hall : (backToKw pos (keywordEach kws X.env)).all (·.1.isSome) = true := by rfl) (hks : (backToKw pos (keywordEach kws X.env)).filterMap (·.1) = ks := by rfl)
    (hdb : (x == ("__debug__" : Str)) = false := by decide) (hpl : ((backTo pos (starEach [] X.env)).any (·.1) || (backToKw pos (keywordEach kws X.env)).any (·.1.isNone)) = false := by rfl) :
    PE X (.Call (.Name x p) [] kws pos) (tCallK sp gV E tNil tk) := by
  refine ⟨fun pins s σ H Q I h => ?_⟩
  refine wpAny_Call_Name_kw (ld_glob I hg hm ?_ hdb)
  refine PySem.W.callWith_KW0 (h₀ := X.base) I.ok.mod.kin hk hall (thn (hkw.run pos pins s σ H _ I h) fun ws s2 ⟨zs, H2, I2, rz, q2⟩ => ⟨I2.kIn, ?_⟩) hpl
  rw [hks]
  exact run_fnk (us := []) (vs := []) F hr hb hx I2 .nil rz q2
end
theorem fun_kbinds {K : PySem.W.Frag} {x qual : Str} {st : Stmt} {f : Addr} {fd : FuncData} {ps : List Str} (F : Fun K x qual st f fd) (hp : 0 < ps.length)
    (h : ∀ (kV doc pm : Value) (an : Option Addr) (cdv ct : Value) (ws : List Value), ws.length = ps.length → bindArgs (PySem.W.fnOf x qual (defArgs st) (defBody st) (defScope st) .none kV doc pm an cdv ct) ⟨[], ps.zip ws⟩ = pure (ps.zip ws)) : KBinds K fd ps ps kG kG := by
  obtain ⟨oc, od, kV, doc, pm, an, cdv, ct, osl, rfl, lk, hcd⟩ := F.ex
  refine ⟨fun s us ws _ hl => ?_, fun r rz => ?_⟩
  · cases us with
    | nil => exact .of_eq (h kV doc pm an cdv ct ws hl)
    | cons u us =>
      have hl : (0 : Nat) = ps.length := hl
      omega
  · cases r with
    | nil => exact rz
    | cons _ _ => exact .nil
section
variable {K : PySem.W.Frag}
theorem shown_sumL (ns : List Nat) (h : ∀ n ∈ ns, n < 10 ^ 70) : (PyData.shown (.list ((ns.map fun n : Nat => (n : Int)).map PyData.int))).length ≤ 72 * ns.length + 10 := by
  have t := listText_len_le (PyData.shownAll ((ns.map fun n : Nat => (n : Int)).map PyData.int))
  have s := shown_sum ns h
  rw [PyData.shownAll_length, List.length_map, List.length_map] at t
  show (listText _).length ≤ _
  omega
/-- what repr asks of a list of small numbers -/
theorem rep_intsL {H : Hp} {a : Addr} {ns : List Nat} {Q : VK} (hS : SqL K H a (ns.map fun n : Nat => V.int (n : Int))) (h : ∀ n ∈ ns, n < 10 ^ 70) (hl : ns.length ≤ 100000)
    (q : Q (.str (PyData.shown (.list ((ns.map fun n : Nat => (n : Int)).map PyData.int)))) H) : rRep K [.ref a] H Q := by
  have dp := depth_ints (ns.map fun n : Nat => (n : Int))
  have e : (ns.map fun n : Nat => V.int (n : Int)) = (ns.map fun n : Nat => (n : Int)).map V.int := by
    rw [List.map_map]
    rfl
  rw [e] at hS
  refine ⟨a, _, rfl, .lst hS (DpAll.ints _), ?_, ?_, ?_, ?_, q⟩
  · show PyData.showableAll _ = true
    refine PyData.showableAll_ints _ fun n hn => ?_
    obtain ⟨m, hm, rfl⟩ := List.mem_map.mp hn
    exact log_small (h m hm)
  · show PyData.hasDictAll _ = false
    exact noDict_ints _
  · simp only [PyData.depth]
    omega
  · have := shown_sumL ns h
    rw [sizeLine_eq]
    omega
end
theorem rep_getL {α : Type} (l : List α) : ∀ (c i : Nat), i < l.length * c → (List.replicate c l).flatten[i]? = l[i % l.length]?
  | 0, i, h => by omega
  | c + 1, i, h => by
    rw [List.replicate_succ, List.flatten_cons]
    by_cases z : i < l.length
    · rw [List.getElem?_append_left z, Nat.mod_eq_of_lt z]
    · rw [List.getElem?_append_right (by omega), rep_getL l c (i - l.length) (by rw [Nat.mul_succ] at h; omega)]
      rw [Nat.mod_eq_sub_mod (show l.length ≤ i by omega)]
theorem rep_lenL {α : Type} (l : List α) : ∀ c : Nat, (List.replicate c l).flatten.length = l.length * c
  | 0 => rfl
  | c + 1 => by rw [List.replicate_succ, List.flatten_cons, List.length_append, rep_lenL l c, Nat.mul_succ, Nat.add_comm]
/-! ### pairs as data -/
theorem eqv_pairs : ∀ ps : List (Nd × Nat), PyData.eqvAll (ps.map pdat) (ps.map pdat) = true
  | [] => by simp [PyData.eqvAll]
  | p :: r => by
    have e1 : PyData.eqv (pdat p) (pdat p) = true := by
      unfold pdat
      simp [PyData.eqv, PyData.eqvAll, eqv_yes]
    simp only [List.map_cons, PyData.eqvAll, e1, eqv_pairs r, Bool.and_self]
theorem eqv_pairsT (ps : List (Nd × Nat)) : PyData.eqv (.tuple (ps.map pdat)) (.tuple (ps.map pdat)) = true := by
  unfold PyData.eqv
  exact eqv_pairs _
theorem eqv_pairsL (ps : List (Nd × Nat)) : PyData.eqv (.list (ps.map pdat)) (.list (ps.map pdat)) = true := by
  unfold PyData.eqv
  exact eqv_pairs _
theorem shaped_prsTT {l : Nat} {ps : List (Nd × Nat)} (h : ∀ p ∈ ps, Ok p.1 l) (hl : l ≤ 20) : SeqAt.shaped (.tuple (ps.map pdat)) = true := by
  obtain ⟨h1, h2⟩ := canLay_prs l ps h
  unfold SeqAt.shaped
  rw [Bool.and_eq_true]
  exact ⟨by unfold PyData.canLay0; exact h1, decide_eq_true (by unfold PyData.depth; omega)⟩
/-- pairs of elements and small counts -/
def ElPairs (ps : List (Nd × Nat)) : Prop := ∀ p ∈ ps, (∃ k : Nat, p.1 = .el k ∧ k ≤ 10 ^ 9) ∧ p.2 < 10 ^ 70
theorem shown_pdat {p : Nd × Nat} (h : (∃ k : Nat, p.1 = .el k ∧ k ≤ 10 ^ 9) ∧ p.2 < 10 ^ 70) : (PyData.shown (pdat p)).length ≤ 147 ∧ PyData.showable (pdat p) = true ∧ PyData.hasDict (pdat p) = false ∧ PyData.depth (pdat p) ≤ 2 := by
  obtain ⟨n, c⟩ := p
  obtain ⟨⟨k, e, hk⟩, hc⟩ := h
  have e : n = .el k := e
  subst e
  have hk7 : k < 10 ^ 70 := Nat.lt_of_le_of_lt hk (by decide +kernel)
  refine ⟨?_, ?_, ?_, ?_⟩
  · show (tupleText (PyData.shownAll [.int (k : Int), .int (c : Int)])).length ≤ 147
    have t := tupleText_len_le (PyData.shownAll [.int (k : Int), .int (c : Int)])
    have h1 := shown_len hk7
    have h2 := shown_len (n := c) hc
    simp only [PyData.shownAll, List.map_cons, List.map_nil, List.sum_cons, List.sum_nil, List.length_cons, List.length_nil] at t
    simp only [PyData.shownAll]
    omega
  · show PyData.showableAll (([k, c].map fun n : Nat => (n : Int)).map PyData.int) = true
    refine PyData.showableAll_ints _ fun n hn => ?_
    obtain ⟨m, hm, rfl⟩ := List.mem_map.mp hn
    simp only [List.mem_cons, List.not_mem_nil, or_false] at hm
    rcases hm with rfl | rfl
    · exact log_small hk7
    · exact log_small hc
  · show PyData.hasDictAll (([k, c].map fun n : Nat => (n : Int)).map PyData.int) = false
    exact noDict_ints _
  · have := depth_ints ([k, c].map fun n : Nat => (n : Int))
    show PyData.depth (.tuple (([k, c].map fun n : Nat => (n : Int)).map PyData.int)) ≤ 2
    simp only [PyData.depth]
    omega
theorem shown_pdats : ∀ ps : List (Nd × Nat), ElPairs ps → ((PyData.shownAll (ps.map pdat)).map (·.length)).sum ≤ 147 * ps.length ∧ PyData.showableAll (ps.map pdat) = true ∧ PyData.hasDictAll (ps.map pdat) = false ∧ PyData.depthAll (ps.map pdat) ≤ 2
  | [], _ => by simp [PyData.shownAll, PyData.showableAll, PyData.hasDictAll, PyData.depthAll]
  | p :: r, h => by
    obtain ⟨a1, a2, a3, a4⟩ := shown_pdat (h p List.mem_cons_self)
    obtain ⟨b1, b2, b3, b4⟩ := shown_pdats r fun q hq => h q (List.mem_cons_of_mem _ hq)
    simp only [List.map_cons, PyData.shownAll, PyData.showableAll, PyData.hasDictAll, PyData.depthAll, List.sum_cons, List.length_cons, a2, b2, a3, b3, Bool.and_self, Bool.or_self]
    refine ⟨by omega, trivial, trivial, by omega⟩
theorem shown_prsT {ps : List (Nd × Nat)} (h : ElPairs ps) : (PyData.shown (.tuple (ps.map pdat))).length ≤ 149 * ps.length + 3 ∧ PyData.showable (.tuple (ps.map pdat)) = true ∧ PyData.hasDict (.tuple (ps.map pdat)) = false ∧ PyData.depth (.tuple (ps.map pdat)) ≤ 3 := by
  obtain ⟨b1, b2, b3, b4⟩ := shown_pdats ps h
  refine ⟨?_, b2, b3, ?_⟩
  · show (tupleText _).length ≤ _
    have t := tupleText_len_le (PyData.shownAll (ps.map pdat))
    rw [PyData.shownAll_length, List.length_map] at t
    omega
  · simp only [PyData.depth]
    omega
section
variable {K : PySem.W.Frag}
/-- repr of pairs -/
theorem rep_prsT {H : Hp} {a : Addr} {us : List V} {ps : List (Nd × Nat)} {Q : VK} (hS : SqT K H a us) (hn : PrsV K H us ps) (h : ElPairs ps) (hl : ps.length ≤ 1000) (q : Q (.str (PyData.shown (.tuple (ps.map pdat)))) H) : rRep K [.ref a] H Q := by
  obtain ⟨b1, b2, b3, b4⟩ := shown_prsT h
  refine ⟨a, _, rfl, .tup hS hn, b2, b3, by omega, ?_, q⟩
  rw [sizeLine_eq]
  omega
/-- repr of a list of two tuples of pairs -/
theorem rep_two {H : Hp} {a b c : Addr} {us ws : List V} {ps : List (Nd × Nat)} {Q : VK} (hL : SqL K H a [.ref b, .ref c]) (hb : SqT K H b us) (hc : SqT K H c ws) (hn : PrsV K H us ps) (hm : PrsV K H ws ps) (h : ElPairs ps) (hl : ps.length ≤ 1000)
    (q : Q (.str (PyData.shown (.list [.tuple (ps.map pdat), .tuple (ps.map pdat)]))) H) : rRep K [.ref a] H Q := by
  obtain ⟨b1, b2, b3, b4⟩ := shown_prsT h
  refine ⟨a, _, rfl, .lst hL (.cons (.tup hb hn) (.cons (.tup hc hm) .nil)), ?_, ?_, ?_, ?_, q⟩
  · simp only [PyData.showable, PyData.showableAll]
    simp only [PyData.showable] at b2
    rw [b2]
    rfl
  · simp only [PyData.hasDict, PyData.hasDictAll]
    simp only [PyData.hasDict] at b3
    rw [b3]
    rfl
  · simp only [PyData.depth, PyData.depthAll]
    simp only [PyData.depth] at b4
    omega
  · show (listText (PyData.shownAll [.tuple (ps.map pdat), .tuple (ps.map pdat)])).length ≤ sizeLine
    have t := listText_len_le (PyData.shownAll [.tuple (ps.map pdat), .tuple (ps.map pdat)])
    simp only [PyData.shownAll, List.map_cons, List.map_nil, List.sum_cons, List.sum_nil, List.length_cons, List.length_nil] at t
    simp only [PyData.shownAll]
    rw [sizeLine_eq]
    omega
end
/-! ### repr of a tuple, an int, None -/
def rRepV (K : PySem.W.Frag) : List V → Hp → VK → Prop := fun xs H Q => rRepA K xs H Q ∨ (xs = [.non] ∧ Q (.str "None") H)
theorem call_repV {X : Cx} {k : Nat} (hr : Room k X.A) (hg : X.A.guards = some []) : CallR X (.builtin "repr") (rRepV X.K) := by
  intro pins s σ H xs us Q I r h
  rcases h with h | ⟨rfl, q⟩
  · exact call_repA hr hg pins s σ H xs us Q I r h
  · obtain ⟨u, rfl, ru⟩ := vals1 r
    cases ru
    exact PySem.P.repr_of_none ⟨.str _, H, I.tok _, ⟨_, rfl⟩, q⟩
theorem sum_ints (l : List Nat) : (l.map fun n : Nat => (n : Int)).sum = ((l.sum : Nat) : Int) := by
  induction l with
  | nil => rfl
  | cons a r ih => rw [List.map_cons, List.sum_cons, List.sum_cons, ih, Int.natCast_add]
open RZ
/-! ### for x, y in zip(t, u), t and u tuples of any lengths -/
theorem for_zipU {K : PySem.W.Frag} {a b : Addr} {xs ys : List V} {g : TG} {tb : TS} {D : Ends} {σ : L2.St} {H : Hp} (Pv : Nat → L2.St → Hp → Prop) (h0 : Pv 0 σ H) (hq : ∀ i σ H, Pv i σ H → SqT K H a xs ∧ SqT K H b ys)
    (hs : ∀ (i : Nat) (x y : V) (T : Addr) (σ : L2.St) (H : Hp), xs[i]? = some x → ys[i]? = some y → Pv i σ H → H T = none → g (.ref T) σ (upd H T (.tup [x, y])) fun σ2 H2 => tb { D with nx := Pv (i + 1), ct := Pv (i + 1), bk := D.nx } σ2 H2)
    (hd : ∀ i σ H, Pv i σ H → (xs.length ≤ i ∨ ys.length ≤ i) → D.nx σ H) :
    ∃ W : Nat → Nat → L2.St → Hp → Prop, (∃ m, W 0 m σ H) ∧ ∀ i m σ H, W i m σ H →
      ((ItzT K a b).stop i H ∧ D.nx σ H) ∨ ((ItzT K a b).go i H ∧ ∃ N : L2.St → Hp → Prop, (∀ σ' H', N σ' H' → ∃ m', m' < m ∧ W (i + 1) m' σ' H') ∧ ∀ v H', (ItzT K a b).yld i H v H' → g v σ H' fun σ2 H2 => tb { D with nx := N, ct := N, bk := D.nx } σ2 H2) := by
  refine ⟨fun i m σ H => m = xs.length - i ∧ Pv i σ H, ⟨_, rfl, h0⟩, ?_⟩
  rintro i m σ H ⟨rfl, p⟩
  obtain ⟨k1, k2⟩ := hq i σ H p
  by_cases c : i < xs.length ∧ i < ys.length
  · obtain ⟨x, gx⟩ := get_of c.1
    obtain ⟨y, gy⟩ := get_of c.2
    refine .inr ⟨⟨xs, ys, x, y, k1, k2, gx, gy⟩, Pv (i + 1), fun σ' H' p' => ⟨xs.length - (i + 1), by omega, rfl, p'⟩, fun v H' hy => ?_⟩
    obtain ⟨T, x', y', rfl, hT, rfl, f1, f2⟩ := hy
    have ex : x' = x := Option.some.inj ((f1 _ k1).symm.trans gx)
    have ey : y' = y := Option.some.inj ((f2 _ k2).symm.trans gy)
    subst ex
    subst ey
    exact hs i _ _ T σ H gx gy p hT
  · have c' : xs.length ≤ i ∨ ys.length ≤ i := by omega
    exact .inl ⟨⟨xs, ys, k1, k2, c'⟩, hd i σ H p c'⟩
/-- t[1:] -/
theorem slice_one {K : PySem.W.Frag} {H : Hp} {a : Addr} {xs : List V} {Q : VK} (h : SqT K H a xs) (q : ∀ H' t, Same H H' → SqT K H' t (xs.drop 1) → Q (.ref t) H') : rSlA K (.ref a) (some 1) none H Q := by
  refine ⟨a, xs, rfl, h, fun hw => q H a (Same.refl H) ?_, fun hw u nu => q _ u (sameN nu) (.inl (.inl ?_))⟩
  · have h1 : HT.sIx xs.length 0 (some ((1 : Nat) : Int)) = 0 := hw.1
    rw [HT.sIx_nat] at h1
    have : xs.length = 0 := by omega
    rw [List.eq_nil_of_length_eq_zero this] at h ⊢
    exact h
  · rw [upd_same]
    refine congrArg (fun z => some (HO.tup z)) ?_
    show cutV xs (some ((1 : Nat) : Int)) none = _
    unfold cutV
    rw [HT.sIx_nat, HT.sIx_none]
    by_cases z : xs.length = 0
    · rw [List.eq_nil_of_length_eq_zero z]
      rfl
    · rw [show min 1 xs.length = 1 by omega]
      exact List.take_of_length_le (by rw [List.length_drop]; exact Nat.le_refl _)
/-- a pair as data -/
theorem shaped_pdat {p : Nd × Nat} {l : Nat} (h : Ok p.1 l) (hl : l ≤ 20) : SeqAt.shaped (pdat p) = true := by
  obtain ⟨h1, h2⟩ := canLay_prs l [p] fun q hq => by rw [List.mem_singleton.mp hq]; exact h
  unfold SeqAt.shaped
  rw [Bool.and_eq_true]
  simp only [List.map_cons, List.map_nil, PyData.canLayAll0, PyData.depthAll, Bool.and_true] at h1 h2
  exact ⟨h1, decide_eq_true (by omega)⟩
theorem eqv_pdat (p : Nd × Nat) : PyData.eqv (pdat p) (pdat p) = true := by
  unfold pdat
  simp [PyData.eqv, PyData.eqvAll, eqv_yes]
end Loc

set_option Elab.async false
set_option linter.all false
namespace Loc
open PySem PySem.Spec PyProof.Rows L2
section
variable {X : Cx} {a b c d : Expr} {ta tb tc td : TE} {pos : Pos}
/-- a op1 b op2 c op3 d -/
def tChain3 (r r' r'' : R2) (ta tb tc td : TE) : TE := fun σ H Q => ta σ H fun x H1 => tb σ H1 fun y H2 => r x y H2 fun z H3 => ∃ k, z = .bl k ∧
  (if k = true then tc σ H3 fun w' H4 => r' y w' H4 fun z2 H5 => ∃ k2, z2 = .bl k2 ∧ (if k2 = true then td σ H5 fun u H6 => r'' w' u H6 Q else Q (.bl false) H5) else Q (.bl false) H3)
theorem pt_chain3 {op op' op'' : CmpOp} {r r' r'' : R2} (ho : OpR X (compareOp op) r) (ho' : OpR X (compareOp op') r') (ho'' : OpR X (compareOp op'') r'') (ha : PE X a ta) (hb : PE X b tb) (hc : PE X c tc) (hd : PE X d td)
    (hm : lastMarks [op, op', op''] [b, c, d] = false := by with_unfolding_all rfl) : PT X (.Compare a [op, op', op''] [b, c, d] pos) (tTest (tChain3 r r' r'' ta tb tc td)) := by
  refine ⟨fun pins s σ H Q I h => ?_⟩
  refine isTrue_chain (thn (ha.run pins s σ H _ I h) fun v s1 ⟨x, H1, I1, r1, q1⟩ => test_link (thn (hb.run pins s1 σ H1 _ I1 q1) fun u s2 ⟨y, H2, I2, r2, q2⟩ =>
    thn (ho pins s2 σ H2 x y v u _ I2 r1 r2 q2) fun d' s3 ⟨z, H3, I3, r3, k, e, q3⟩ => ?_)) hm
  subst e
  cases r3
  refine wpAny_truthy_bool ?_
  cases k with
  | false =>
    obtain ⟨k', e', q'⟩ := q3
    cases e'
    exact ite_ff ⟨H3, I3, q'⟩
  | true =>
    refine ite_tt (test_link (thn (hc.run pins s3 σ H3 _ I3 q3) fun w' s4 ⟨z', H4, I4, r4, q4⟩ => thn (ho' pins s4 σ H4 y z' u w' _ I4 r2 r4 q4) fun d2 s5 ⟨z2, H5, I5, r5, k2, e2, q5⟩ => ?_))
    subst e2
    cases r5
    refine wpAny_truthy_bool ?_
    cases k2 with
    | false =>
      obtain ⟨k', e', q'⟩ := q5
      cases e'
      exact ite_ff ⟨H5, I5, q'⟩
    | true =>
      refine ite_tt (test_last (thn (hd.run pins s5 σ H5 _ I5 q5) fun w2 s6 ⟨z6, H6, I6, r6, q6⟩ => thn (ho'' pins s6 σ H6 z' z6 w' w2 _ I6 r4 r6 q6) fun d3 s7 ⟨z7, H7, I7, r7, k3, e3, q7⟩ => ?_))
      subst e3
      cases r7
      exact wpAny_truthy_bool ⟨H7, I7, q7⟩
end
end Loc

set_option Elab.async false
set_option linter.all false
set_option maxRecDepth 100000
namespace Loc
open PySem PySem.Spec PyProof.Rows L2
/-- a comprehension over reversed(t), t a tuple -/
theorem lc_revT {K : PySem.W.Frag} {a : Addr} {xs : List V} {g : TG} {tt : TT} {te : TE} {vs : List Nat} {σ : L2.St} {H1 : Hp} {D : Addr} {Qd : Hp → Prop} (Pv : Nat → Hp → Prop) (h0 : Pv 0 (upd H1 D (.lst []))) (hl : ∀ i H, i ≤ xs.length → Pv i H → SqT K H a xs)
    (hs : ∀ i x H, i < xs.length → xs[xs.length - 1 - i]? = some x → Pv i H → g x (wipe σ vs) H fun σ2 H2 => wipe σ2 vs = wipe σ vs ∧ tt σ2 H2 fun b H3 =>
      if b = true then te σ2 H3 fun y H4 => ∃ acc, H4 D = some (.lst acc) ∧ acc.length < sizeLine ∧ Pv (i + 1) (upd H4 D (.lst (acc ++ [y]))) else Pv (i + 1) H3) (hd : ∀ H, Pv xs.length H → Qd H) :
    ∃ W : Nat → Nat → Hp → Prop, (∃ m, W 0 m (upd H1 D (.lst []))) ∧ ∀ i m H, W i m H →
      ((RT.ItvT K a xs.length).stop i H ∧ Qd H) ∨ ((RT.ItvT K a xs.length).go i H ∧ ∃ Nx : Hp → Prop, (∀ H', Nx H' → ∃ m', m' < m ∧ W (i + 1) m' H') ∧ ∀ x H', (RT.ItvT K a xs.length).yld i H x H' → g x (wipe σ vs) H' fun σ2 H2 => wipe σ2 vs = wipe σ vs ∧ tt σ2 H2 fun b H3 =>
        if b = true then te σ2 H3 fun y H4 => ∃ acc, H4 D = some (.lst acc) ∧ acc.length < sizeLine ∧ Nx (upd H4 D (.lst (acc ++ [y]))) else Nx H3) := by
  refine ⟨fun i m H => m = xs.length - i ∧ i ≤ xs.length ∧ Pv i H, ⟨xs.length, by simp, Nat.zero_le _, h0⟩, ?_⟩
  rintro i m H ⟨rfl, hi, p⟩
  have q := hl i H hi p
  by_cases hlt : i < xs.length
  · refine .inr ⟨⟨hlt, xs, xs[xs.length - 1 - i]'(by omega), q, by rw [List.getElem?_eq_getElem]⟩, Pv (i + 1), fun H' p' => ⟨xs.length - (i + 1), by omega, rfl, hlt, p'⟩, fun x H' y => ?_⟩
    obtain ⟨e, y⟩ := y
    subst e
    exact hs i x _ hlt (y xs q) p
  · have e : i = xs.length := by omega
    subst e
    exact .inl ⟨Nat.le_refl _, hd H p⟩
end Loc

set_option Elab.async false
set_option linter.all false
set_option maxRecDepth 100000
set_option maxHeartbeats 4000000
namespace Loc
open PySem PySem.Spec PyProof.Rows L2
/-- a short tuple, written up to 2000 times -/
def rRepT2 (K : PySem.W.Frag) : R2 := fun x y H Q => ∃ l k xs, x = .ref l ∧ y = .int k ∧ SqT K H l xs ∧ xs ≠ [] ∧ 2 ≤ k ∧ k ≤ 2000 ∧ xs.length ≤ 400 ∧ ∀ H' p, Same H H' → SqT K H' p (List.replicate k.toNat xs).flatten → Q (.ref p) H'
theorem op_repT2 {X : Cx} : OpR X (binaryOp .Mult) (rRepT2 X.K) := by
  intro pins s σ H x y v u Q I rx ry h
  obtain ⟨l, k, xs, rfl, rfl, tup, ne, two, most, short, q⟩ := h
  cases rx
  obtain ⟨w, rfl⟩ := ry
  obtain ⟨ys, r, ⟨⟨cls, dd, data, sl⟩, hob, hcl, n, hdt⟩, hsm⟩ := I.tuple tup
  simp only at hcl hdt
  subst hcl hdt
  have ly : ys.length = xs.length := r.length.symm
  obtain ⟨y0, yr, rfl⟩ : ∃ y0 yr, ys = y0 :: yr := by
    cases ys with
    | nil => exact absurd (List.eq_nil_of_length_eq_zero ly.symm) ne
    | cons a b => exact ⟨a, b, rfl⟩
  have filled : ((y0 :: yr).toArray).isEmpty = false := rfl
  have size0 : ((y0 :: yr).toArray).size = xs.length := by rw [List.size_toArray, ly]
  have prod : ((((y0 :: yr).toArray).size : Nat) : Int) * k ≤ 800000 := by
    rw [size0]
    have := Int.mul_le_mul_of_nonneg_right (c := k) (show ((xs.length : Nat) : Int) ≤ 400 by omega) (by omega)
    omega
  have prodN : k.toNat * xs.length ≤ 2000 * 400 := Nat.mul_le_mul (by omega) short
  have flat : (List.replicate k.toNat (y0 :: yr)).flatten.length ≤ sizeLine := by
    rw [PyProof.Rows.lm_len_rep_flat, ly]
    exact Nat.le_trans prodN (by decide)
  have b0 : (decide (k < -(2 ^ 63)) || decide (k ≥ 2 ^ 63)) = false := by
    rw [Bool.or_eq_false_iff]
    exact ⟨decide_eq_false (by omega), decide_eq_false (by omega)⟩
  have b1 : (((y0 :: yr).toArray).isEmpty || k == 1) = false := Bool.or_eq_false_iff.mpr ⟨filled, beq_eq_false_iff_ne.mpr (by omega)⟩
  have b2 : (decide (k ≤ 0) || ((y0 :: yr).toArray).isEmpty) = false := Bool.or_eq_false_iff.mpr ⟨decide_eq_false (by omega), filled⟩
  have b4 : Builtin.Tuple.tupleTooMany (((((y0 :: yr).toArray).size : Nat) : Int) * k) = false := by
    have : (800000 : Int) ≤ ((sizeLine : Nat) : Int) := by decide
    exact decide_eq_false (by omega)
  refine wpAny_binaryOp_repeat_ref (T := "tuple") (U := "int")
    (by decide) ⟨_, hob, rfl⟩ (fun s' => typeIs_int s' k w)
    noFill_tuple_mul PySem.F.fills_int_mul PySem.F.slot_int_rmul
    repeat_tuple PySem.F.slot_int_index.lookup ?_
  refine call_meets PySem.F.slot_int_rmul (typeIs_int s k w)
    PySem.F.entry_int_rmul (PySem.F.args_int_rmul_2 _ _)
    (int_rmul_tuple k w l (y0 :: yr).toArray n dd sl) ⟨hob, rfl, ⟨_, hob, rfl⟩, ?_⟩
  refine call_meets PySem.F.slot_tuple_mul ⟨_, hob, rfl⟩
    PySem.F.entry_tuple_mul (PySem.F.args_tuple_mul_2 _ _)
    (tuple_mulW l (y0 :: yr).toArray n dd sl k w b0 b1 b2 (by omega) b4
      (by rw [size_rep, List.size_toArray]; exact flat)) ⟨hob, ?_⟩
  rw [size_rep]
  have fresh : H s.heap.objs.size = none := I.hok.fresh (Nat.le_refl _)
  refine ⟨.ref s.heap.objs.size, _, I.laid (t' := s.toks) (o := .tup (List.replicate k.toNat xs).flatten)
    (fun b ob z => Heap.get?_push_of_some _ z) (Nat.le_refl _) ⟨?_, _, r.rep k.toNat, IsTup.new _ _⟩, rfl, q _ _ (sameN fresh) (.inl (.inl upd_same))⟩
  rw [PyProof.Rows.lm_len_rep_flat]
  exact Nat.le_trans prodN (by decide)
end Loc

set_option linter.all false
/-! marks depend on few places to the left; where there are marks, there are peaks -/
namespace M82
/-- what a round makes of an end of a row, its first place left out -/
def stp : List Nat → List Nat
  | [] => []
  | c :: t => M07.marks c t
theorem marks_app (a : Nat) : ∀ (x s : List Nat) (c : Nat), ∃ y, M07.marks a (x ++ c :: s) = y ++ M07.marks c s ∧ y.length = x.length + 1
  | [], s, c => ⟨[M07.mk a c], by rw [List.nil_append, M07.marks]; rfl, rfl⟩
  | b :: x, s, c => by
    obtain ⟨y, e, l⟩ := marks_app b x s c
    exact ⟨M07.mk a b :: y, by rw [List.cons_append, M07.marks, e]; rfl, by rw [List.length_cons, l, List.length_cons]⟩
theorem marks_len (a : Nat) : ∀ x : List Nat, (M07.marks a x).length = x.length
  | [] => rfl
  | b :: x => by rw [M07.marks, List.length_cons, marks_len b x, List.length_cons]
theorem stp_len (s : List Nat) : (stp s).length = s.length - 1 := by
  cases s with
  | nil => rfl
  | cons c t => rw [stp, marks_len, List.length_cons, Nat.add_sub_cancel]
/-- a round, on a row with this end -/
theorem round_end (x s : List Nat) : ∃ y, M07.round (x ++ s) = y ++ stp s ∧ y.length = x.length + min 1 s.length := by
  cases s with
  | nil => exact ⟨M07.round x, by rw [List.append_nil, stp, List.append_nil], by rw [M07.round_length]; rfl⟩
  | cons c t =>
    cases x with
    | nil =>
      have e : ∃ z, M07.round (c :: t) = z :: M07.marks c t := ⟨_, rfl⟩
      obtain ⟨z, e⟩ := e
      exact ⟨[z], by rw [List.nil_append, e]; rfl, by simp⟩
    | cons a x =>
      obtain ⟨y, e, l⟩ := marks_app a x t c
      have e' : ∃ z, M07.round (a :: (x ++ c :: t)) = z :: M07.marks a (x ++ c :: t) := ⟨_, rfl⟩
      obtain ⟨z, e'⟩ := e'
      exact ⟨z :: y, by rw [List.cons_append, e', e]; rfl, by rw [List.length_cons, l, List.length_cons, List.length_cons]; omega⟩
/-- a round, on a row with this beginning -/
theorem marks_beg (a : Nat) : ∀ (x s : List Nat), ∃ z, M07.marks a (x ++ s) = M07.marks a x ++ z
  | [], s => ⟨M07.marks a s, rfl⟩
  | b :: x, s => by
    obtain ⟨z, e⟩ := marks_beg b x s
    exact ⟨z, by rw [List.cons_append, M07.marks, e, M07.marks]; rfl⟩
theorem round_beg (x s : List Nat) : ∃ z, M07.round (x ++ s) = M07.round x ++ z := by
  cases x with
  | nil => exact ⟨M07.round s, rfl⟩
  | cons a x =>
    obtain ⟨z, e⟩ := marks_beg a x s
    have e1 : ∃ w, ∀ r, M07.round (a :: r) = w :: M07.marks a r := ⟨_, fun _ => rfl⟩
    obtain ⟨w, e1⟩ := e1
    exact ⟨z, by rw [List.cons_append, e1, e1, e]; rfl⟩
/-! ### valleys -/
/-- no place that is above both neighbours -/
def NoPk : List Nat → Prop
  | a :: b :: c :: r => ¬ (a < b ∧ c < b) ∧ NoPk (b :: c :: r)
  | _ => True
/-- once it goes up, it goes up -/
theorem up_all : ∀ (r : List Nat) (a b : Nat), a < b → NoPk (a :: b :: r) → M07.Unl (b :: r) → b + r.length ≤ (b :: r).getLast (by simp)
  | [], a, b, _, _, _ => by simp
  | c :: r, a, b, h, n, u => by
    have hc : b < c := by
      have h1 := n.1
      have h2 : b ≠ c := u.1
      omega
    have := up_all r b c hc n.2 u.2
    rw [List.length_cons, List.getLast_cons (by simp)]
    omega
/-- a row of unlike neighbours of 0 to 5 with no peak has at most eleven places -/
theorem valley : ∀ (r : List Nat) (a : Nat), NoPk (a :: r) → M07.Unl (a :: r) → (∀ x ∈ a :: r, x ≤ 5) → r.length ≤ a + 5
  | [], a, _, _, _ => Nat.zero_le _
  | b :: r, a, n, u, h => by
    have ab : a ≠ b := u.1
    rcases Nat.lt_or_gt_of_ne ab with c | c
    · have := up_all r a b c n u.2
      have l5 := h _ (List.mem_cons_of_mem _ (List.getLast_mem (show b :: r ≠ [] by simp)))
      rw [List.length_cons]
      omega
    · have n2 : NoPk (b :: r) := by
        cases r with
        | nil => trivial
        | cons d r => exact n.2
      have := valley r b n2 u.2 fun x hx => h x (List.mem_cons_of_mem _ hx)
      rw [List.length_cons]
      omega
/-! ### cuts, from a beginning on -/
def cutsL (n b : Nat) (tops : List Nat) : List Nat := ((M10.sts n b tops).flatMap M10.stz).map (·.1)
theorem cutsL_nil (n b : Nat) : cutsL n b [] = (M10.str (n - b) b).map (·.1) := by
  unfold cutsL
  rw [M10.sts, List.flatMap_cons, List.flatMap_nil, List.append_nil]
  rfl
theorem cutsL_cons (n b t : Nat) (r : List Nat) : cutsL n b (t :: r) = (M10.str (t - b) b).map (·.1) ++ cutsL n t r := by
  unfold cutsL
  rw [M10.sts, List.flatMap_cons, List.map_append]
  rfl
theorem filter_more {p : Nat → Bool} {a : Nat} : ∀ d : Nat, (∀ k, p k = true → k < a) → (List.range (a + d)).filter p = (List.range a).filter p
  | 0, _ => rfl
  | d + 1, h => by
    rw [← Nat.add_assoc, List.range_succ, List.filter_append, filter_more d h]
    have : p (a + d) = false := by
      cases e : p (a + d) with
      | false => rfl
      | true => have := h _ e; omega
    rw [List.filter_cons_of_neg (by rw [this]; decide), List.filter_nil, List.append_nil]
theorem filter_two {p : Nat → Bool} {a b : Nat} (h : ∀ k, p k = true → k < a ∧ k < b) : (List.range a).filter p = (List.range b).filter p := by
  rcases Nat.le_total a b with l | l
  · obtain ⟨d, rfl⟩ : ∃ d, b = a + d := ⟨b - a, by omega⟩
    exact (filter_more d fun k hk => (h k hk).1).symm
  · obtain ⟨d, rfl⟩ : ∃ d, a = b + d := ⟨a - b, by omega⟩
    exact filter_more d fun k hk => (h k hk).2
theorem filter_map_p {α β : Type} (f : α → β) (p : β → Bool) : ∀ l : List α, (l.map f).filter p = (l.filter fun x => p (f x)).map f
  | [] => rfl
  | a :: l => by
    rw [List.map_cons, List.filter_cons, List.filter_cons, filter_map_p f p l]
    split <;> rfl
theorem str_near {d d' b M : Nat} (h : 2 ≤ d) (h' : 2 ≤ d') (m : M ≤ b + d) (m' : M ≤ b + d') : ((M10.str d b).map (·.1)).filter (fun s => decide (s + 2 ≤ M)) = ((M10.str d' b).map (·.1)).filter (fun s => decide (s + 2 ≤ M)) := by
  rw [M10.str_fst d b h, M10.str_fst d' b h', filter_map_p, filter_map_p]
  congr 1
  refine filter_two fun k hk => ?_
  have := of_decide_eq_true hk
  omega
theorem str_mem {d b s : Nat} (h : 2 ≤ d) (hs : s ∈ (M10.str d b).map (·.1)) : b ≤ s ∧ s + 2 ≤ b + d := by
  rw [M10.str_fst d b h] at hs
  obtain ⟨k, hk, rfl⟩ := List.mem_map.mp hs
  have := List.mem_range.mp hk
  omega
theorem cutsL_mem {n : Nat} : ∀ {tops : List Nat} {b s : Nat}, M10.Gap n b tops → s ∈ cutsL n b tops → b ≤ s ∧ s + 2 ≤ n
  | [], b, s, g, hs => by
    rw [cutsL_nil] at hs
    have g : b + 2 ≤ n := g
    have := str_mem (by omega) hs
    omega
  | t :: r, b, s, g, hs => by
    rw [cutsL_cons] at hs
    have g1 : b + 2 ≤ t := g.1
    have tn : t + 2 ≤ n := by
      have le : ∀ {b : Nat} {r : List Nat}, M10.Gap n b r → b + 2 ≤ n := by
        intro b r
        induction r generalizing b with
        | nil => exact fun h => h
        | cons u r ih => intro h; have := ih h.2; have := h.1; omega
      exact le g.2
    rcases List.mem_append.mp hs with h | h
    · have := str_mem (by omega) h
      omega
    · have := cutsL_mem g.2 h
      omega
theorem filter_none {p : Nat → Bool} {l : List Nat} (h : ∀ s ∈ l, p s = false) : l.filter p = [] := List.filter_eq_nil_iff.mpr fun s hs => by rw [h s hs]; decide
/-- peaks that agree ahead of M lead to cuts that agree ahead of M - 1 -/
theorem cuts_near {n n' M : Nat} {v v' : List Nat} (hv : ∀ t ∈ v, M ≤ t) (hv' : ∀ t ∈ v', M ≤ t) (hn : M ≤ n) (hn' : M ≤ n') : ∀ (u : List Nat) (b : Nat), M10.Gap n b (u ++ v) → M10.Gap n' b (u ++ v') →
    (cutsL n b (u ++ v)).filter (fun s => decide (s + 2 ≤ M)) = (cutsL n' b (u ++ v')).filter (fun s => decide (s + 2 ≤ M))
  | t :: u, b, g, g' => by
    rw [List.cons_append, List.cons_append, cutsL_cons, cutsL_cons, List.filter_append, List.filter_append, cuts_near hv hv' hn hn' u t g.2 g'.2]
  | [], b, g, g' => by
    have part : ∀ {n : Nat} {v : List Nat}, (∀ t ∈ v, M ≤ t) → M ≤ n → M10.Gap n b v → ∃ d, 2 ≤ d ∧ M ≤ b + d ∧ (cutsL n b v).filter (fun s => decide (s + 2 ≤ M)) = ((M10.str d b).map (·.1)).filter (fun s => decide (s + 2 ≤ M)) := by
      intro n v hv hn g
      cases v with
      | nil =>
        have g : b + 2 ≤ n := g
        exact ⟨n - b, by omega, by omega, by rw [cutsL_nil]⟩
      | cons t r =>
        have g1 : b + 2 ≤ t := g.1
        have ht := hv t List.mem_cons_self
        refine ⟨t - b, by omega, by omega, ?_⟩
        rw [cutsL_cons, List.filter_append, filter_none (l := cutsL n t r) (fun s hs => decide_eq_false (by have := cutsL_mem g.2 hs; omega)), List.append_nil]
    rw [List.nil_append, List.nil_append] at *
    obtain ⟨d, h1, h2, e⟩ := part hv hn g
    obtain ⟨d', h1', h2', e'⟩ := part hv' hn' g'
    rw [e, e']
    exact str_near h1 h1' h2 h2'
theorem str_shift (d b g : Nat) (h : 2 ≤ d) : (M10.str d (b + g)).map (·.1) = ((M10.str d b).map (·.1)).map (· + g) := by
  rw [M10.str_fst d _ h, M10.str_fst d b h, List.map_map]
  refine List.map_congr_left fun k _ => ?_
  show b + g + k * 2 = b + k * 2 + g
  omega
theorem cutsL_shift (g : Nat) {N : Nat} : ∀ (v : List Nat) (b : Nat), M10.Gap N b v → cutsL (N + g) (b + g) (v.map (· + g)) = (cutsL N b v).map (· + g)
  | [], b, h => by
    have h : b + 2 ≤ N := h
    rw [List.map_nil, cutsL_nil, cutsL_nil, show N + g - (b + g) = N - b by omega, str_shift _ _ _ (by omega)]
  | t :: v, b, h => by
    have h1 : b + 2 ≤ t := h.1
    rw [List.map_cons, cutsL_cons, cutsL_cons, List.map_append, cutsL_shift g v t h.2, show t + g - (b + g) = t - b by omega, str_shift _ _ _ (by omega)]
theorem gap_le {n x : Nat} {w : List Nat} : ∀ {u : List Nat} {b : Nat}, M10.Gap n b (u ++ x :: w) → b + 2 ≤ x
  | [], _, h => h.1
  | t :: u, b, h => by
    have h1 : b + 2 ≤ t := h.1
    have := gap_le h.2
    omega
theorem gap_at {n x : Nat} {w : List Nat} : ∀ {u : List Nat} {b : Nat}, M10.Gap n b (u ++ x :: w) → M10.Gap n x w
  | [], _, h => h.2
  | _ :: _, _, h => gap_at h.2
theorem gap_unshift {N g : Nat} : ∀ (v : List Nat) (b : Nat), M10.Gap (N + g) (b + g) (v.map (· + g)) → M10.Gap N b v
  | [], b, h => by
    have h : b + g + 2 ≤ N + g := h
    show b + 2 ≤ N
    omega
  | t :: v, b, h => by
    have h1 : b + g + 2 ≤ t + g := h.1
    exact ⟨by omega, gap_unshift v t h.2⟩
/-- from a peak h places behind g on: the cuts from K places behind g on -/
theorem cuts_far {N g h K : Nat} {v : List Nat} (hK : h ≤ K) : ∀ (u : List Nat) (b : Nat), M10.Gap (N + g) b (u ++ (h + g) :: v.map (· + g)) →
    (cutsL (N + g) b (u ++ (h + g) :: v.map (· + g))).filter (fun s => decide (g + K ≤ s)) = ((cutsL N h v).filter (fun s => decide (K ≤ s))).map (· + g)
  | [], b, G => by
    have G1 : b + 2 ≤ h + g := G.1
    rw [List.nil_append, cutsL_cons, List.filter_append, filter_none (l := (M10.str (h + g - b) b).map (·.1)) (fun s hs => decide_eq_false (by have := str_mem (by omega) hs; omega)), List.nil_append,
      cutsL_shift g v h (gap_unshift v h G.2), filter_map_p]
    congr 1
    refine List.filter_congr fun s _ => ?_
    exact decide_eq_decide.mpr ⟨fun h => by omega, fun h => by omega⟩
  | t :: u, b, G => by
    have G1 : b + 2 ≤ t := G.1
    have G2 := gap_le G.2
    rw [List.cons_append, cutsL_cons, List.filter_append, filter_none (l := (M10.str (t - b) b).map (·.1)) (fun s hs => decide_eq_false (by have := str_mem (by omega) hs; omega)), List.nil_append, cuts_far hK u t G.2]
/-! ### peaks of rows with an equal beginning -/
theorem range'_cut (s a c : Nat) : List.range' s (a + c) = List.range' s a ++ List.range' (s + a) c := by
  induction a generalizing s with
  | zero => rw [Nat.zero_add, List.range'_zero, List.nil_append, Nat.add_zero]
  | succ a ih => rw [show a + 1 + c = a + c + 1 by omega, List.range'_succ, List.range'_succ, ih (s + 1), List.cons_append, show s + 1 + a = s + (a + 1) by omega]
theorem pks_near {ms ms' : List Nat} {L : Nat} (hl : L ≤ ms.length) (hl' : L ≤ ms'.length) (he : ∀ i, i < L → ms[i]? = ms'[i]?) : ∃ u v v', M10.pks ms = u ++ v ∧ M10.pks ms' = u ++ v' ∧ (∀ t ∈ v, L - 1 ≤ t) ∧ (∀ t ∈ v', L - 1 ≤ t) := by
  have part : ∀ {ms : List Nat}, L ≤ ms.length → M10.pks ms = (List.range' 2 (L - 1 - 2)).filter (M10.pk ms) ++ (List.range' (2 + (L - 1 - 2)) (ms.length - 3 - (L - 1 - 2))).filter (M10.pk ms) := fun {ms} h => by
    unfold M10.pks
    rw [← List.filter_append, ← range'_cut, show L - 1 - 2 + (ms.length - 3 - (L - 1 - 2)) = ms.length - 3 by omega]
  refine ⟨_, _, (List.range' (2 + (L - 1 - 2)) (ms'.length - 3 - (L - 1 - 2))).filter (M10.pk ms'), part hl, ?_, fun t ht => ?_, fun t ht => ?_⟩
  · rw [part hl']
    congr 1
    refine List.filter_congr fun i hi => ?_
    obtain ⟨j, hj, rfl⟩ := List.mem_range'.mp hi
    unfold M10.pk
    rw [he _ (by omega), he _ (by omega), he _ (by omega)]
  · obtain ⟨j, hj, rfl⟩ := List.mem_range'.mp (List.mem_filter.mp ht).1
    omega
  · obtain ⟨j, hj, rfl⟩ := List.mem_range'.mp (List.mem_filter.mp ht).1
    omega
/-! ### peaks of rows with an equal end -/
theorem noPk_of : ∀ w : List Nat, (∀ i a b c, w[i]? = some a → w[i + 1]? = some b → w[i + 2]? = some c → ¬ (a < b ∧ c < b)) → NoPk w
  | [], _ => trivial
  | [_], _ => trivial
  | [_, _], _ => trivial
  | a :: b :: c :: r, h => ⟨h 0 a b c rfl rfl rfl, noPk_of (b :: c :: r) fun i x y z h1 h2 h3 => h (i + 1) x y z (by simpa using h1) (by simpa using h2) (by simpa using h3)⟩
theorem unl_of : ∀ w : List Nat, (∀ i a b, w[i]? = some a → w[i + 1]? = some b → a ≠ b) → M07.Unl w
  | [], _ => trivial
  | [_], _ => trivial
  | a :: b :: r, h => ⟨h 0 a b rfl rfl, unl_of (b :: r) fun i x y h1 h2 => h (i + 1) x y (by simpa using h1) (by simpa using h2)⟩
theorem peak_in {ms : List Nat} {b : Nat} (hl : b + 12 ≤ ms.length) (u : M07.Unl ms) (h5 : ∀ x ∈ ms, x ≤ 5) : ∃ j, b + 1 ≤ j ∧ j ≤ b + 10 ∧ M10.pk ms j = true := by
  refine Classical.byContradiction fun no => ?_
  have no : ∀ j, b + 1 ≤ j → j ≤ b + 10 → M10.pk ms j = false := fun j h1 h2 => by
    cases e : M10.pk ms j with
    | false => rfl
    | true => exact absurd ⟨j, h1, h2, e⟩ no
  have lw : ((ms.drop b).take 12).length = 12 := by
    rw [List.length_take, List.length_drop]
    omega
  have get : ∀ i x, ((ms.drop b).take 12)[i]? = some x → i < 12 ∧ ms[b + i]? = some x := fun i x h => by
    have hi := (List.getElem?_eq_some_iff.mp h).1
    rw [lw] at hi
    rw [List.getElem?_take_of_lt hi, List.getElem?_drop] at h
    exact ⟨hi, h⟩
  have n : NoPk ((ms.drop b).take 12) := noPk_of _ fun i x y z h1 h2 h3 k => by
    obtain ⟨_, g1⟩ := get _ _ h1
    obtain ⟨_, g2⟩ := get _ _ h2
    obtain ⟨l3, g3⟩ := get _ _ h3
    have := no (b + (i + 1)) (by omega) (by omega)
    unfold M10.pk at this
    rw [show b + (i + 1) - 1 = b + i by omega, g1, g2, show b + (i + 1) + 1 = b + (i + 2) by omega, g3] at this
    simp only [Bool.and_eq_false_iff, decide_eq_false_iff_not] at this
    omega
  have uw : M07.Unl ((ms.drop b).take 12) := unl_of _ fun i x y h1 h2 => by
    obtain ⟨_, g1⟩ := get _ _ h1
    obtain ⟨_, g2⟩ := get _ _ h2
    exact M07.Unl.get u g1 (by rw [show b + i + 1 = b + (i + 1) by omega]; exact g2)
  have w5 : ∀ x ∈ (ms.drop b).take 12, x ≤ 5 := fun x hx => h5 x (List.mem_of_mem_drop (List.mem_of_mem_take hx))
  match e : (ms.drop b).take 12, lw, n, uw, w5 with
  | [], lw, _, _, _ => cases lw
  | a :: r, lw, n, uw, w5 =>
    have := valley r a n uw w5
    have a5 := w5 a List.mem_cons_self
    rw [List.length_cons] at lw
    omega
theorem range'_shift (g : Nat) : ∀ (c a : Nat), List.range' (a + g) c = (List.range' a c).map (· + g)
  | 0, _ => rfl
  | c + 1, a => by
    rw [List.range'_succ, List.range'_succ, List.map_cons, show a + g + 1 = a + 1 + g by omega, range'_shift g c (a + 1)]
/-- the peaks from one of them on -/
theorem pks_at {ms : List Nat} {g h R : Nat} (l : ms.length = g + R) (h2 : 2 ≤ h) (hR : h + 2 ≤ R) (p : M10.pk ms (h + g) = true) : ∃ u, M10.pks ms = u ++ (h + g) :: ((List.range' (h + 1) (R - 2 - h)).filter fun j => M10.pk ms (j + g)).map (· + g) := by
  refine ⟨(List.range' 2 (g + h - 2)).filter (M10.pk ms), ?_⟩
  unfold M10.pks
  rw [show ms.length - 3 = (g + h - 2) + (R - 2 - h + 1) by omega, range'_cut, List.filter_append, show 2 + (g + h - 2) = h + g by omega, List.range'_succ, List.filter_cons_of_pos p, show h + g + 1 = h + 1 + g by omega, range'_shift, filter_map_p]
/-- cuts of rows whose marks begin alike -/
theorem near_cuts {ms ms' : List Nat} {L : Nat} (hl : L ≤ ms.length) (hl' : L ≤ ms'.length) (n2 : 2 ≤ ms.length) (n2' : 2 ≤ ms'.length) (he : ∀ i, i < L → ms[i]? = ms'[i]?) :
    (cutsL ms.length 0 (M10.pks ms)).filter (fun s => decide (s + 3 ≤ L)) = (cutsL ms'.length 0 (M10.pks ms')).filter (fun s => decide (s + 3 ≤ L)) := by
  obtain ⟨u, v, v', e, e', hv, hv'⟩ := pks_near hl hl' he
  have g := M10.pks_gap n2
  have g' := M10.pks_gap n2'
  rw [e] at g ⊢
  rw [e'] at g' ⊢
  rcases Nat.eq_zero_or_pos L with z | z
  · rw [filter_none (fun s _ => decide_eq_false (by omega)), filter_none (fun s _ => decide_eq_false (by omega))]
  · have := cuts_near (M := L - 1) hv hv' (by omega) (by omega) u 0 g g'
    have cg : ∀ l : List Nat, l.filter (fun s => decide (s + 3 ≤ L)) = l.filter (fun s => decide (s + 2 ≤ L - 1)) := fun l => List.filter_congr fun s _ => decide_eq_decide.mpr ⟨fun h => by omega, fun h => by omega⟩
    rw [cg, cg]
    exact this
/-- cuts of rows whose marks end alike, from the sixth place of the end on -/
theorem far_cuts {ms ms' : List Nat} {g g' R : Nat} (l : ms.length = g + R) (l' : ms'.length = g' + R) (n2 : 2 ≤ ms.length) (n2' : 2 ≤ ms'.length) (u : M07.Unl ms) (h5 : ∀ x ∈ ms, x ≤ 5) (same : ∀ j, 5 ≤ j → ms[j + g]? = ms'[j + g']?) :
    ∃ w : List Nat, (cutsL ms.length 0 (M10.pks ms)).filter (fun s => decide (g + 15 ≤ s)) = w.map (· + g) ∧ (cutsL ms'.length 0 (M10.pks ms')).filter (fun s => decide (g' + 15 ≤ s)) = w.map (· + g') := by
  have G := M10.pks_gap n2
  have G' := M10.pks_gap n2'
  rcases Nat.lt_or_ge R 17 with c | c
  · refine ⟨[], ?_, ?_⟩
    · rw [filter_none (fun s hs => decide_eq_false (by have := cutsL_mem G hs; omega))]
      rfl
    · rw [filter_none (fun s hs => decide_eq_false (by have := cutsL_mem G' hs; omega))]
      rfl
  · obtain ⟨j, j1, j2, pj⟩ := peak_in (b := g + 5) (by omega) u h5
    obtain ⟨h, rfl⟩ : ∃ h, j = h + g := ⟨j - g, by omega⟩
    have pk_same : ∀ j, 6 ≤ j → M10.pk ms (j + g) = M10.pk ms' (j + g') := fun j hj => by
      unfold M10.pk
      have a1 := same (j - 1) (by omega)
      have a2 := same j (by omega)
      have a3 := same (j + 1) (by omega)
      rw [show j + g - 1 = j - 1 + g by omega, show j + g' - 1 = j - 1 + g' by omega, show j + g + 1 = j + 1 + g by omega, show j + g' + 1 = j + 1 + g' by omega, a1, a2, a3]
    have pj' : M10.pk ms' (h + g') = true := by rw [← pk_same h (by omega)]; exact pj
    obtain ⟨x, e⟩ := pks_at l (by omega) (show h + 2 ≤ R by omega) pj
    obtain ⟨x', e'⟩ := pks_at l' (by omega) (show h + 2 ≤ R by omega) pj'
    have ev : (List.range' (h + 1) (R - 2 - h)).filter (fun j => M10.pk ms' (j + g')) = (List.range' (h + 1) (R - 2 - h)).filter (fun j => M10.pk ms (j + g)) := List.filter_congr fun k hk => by
      obtain ⟨i, hi, rfl⟩ := List.mem_range'.mp hk
      exact (pk_same _ (by omega)).symm
    rw [ev] at e'
    rw [e, l, Nat.add_comm g R] at G
    rw [e', l', Nat.add_comm g' R] at G'
    refine ⟨(cutsL R h ((List.range' (h + 1) (R - 2 - h)).filter fun j => M10.pk ms (j + g))).filter (fun s => decide (15 ≤ s)), ?_, ?_⟩
    · rw [e, l, Nat.add_comm g R]
      exact cuts_far (K := 15) (by omega) x 0 G
    · rw [e', l', Nat.add_comm g' R]
      exact cuts_far (K := 15) (by omega) x' 0 G'
/-! ### marks are small -/
theorem low_lt : ∀ (n k a b : Nat), a ≠ b → a < 2 ^ k → b < 2 ^ k → M07.low n a b + 1 ≤ k
  | 0, k, a, b, h, h1, h2 => by
    have k0 : k ≠ 0 := fun z => by
      rw [z] at h1 h2
      omega
    show 0 + 1 ≤ k
    omega
  | n + 1, k, a, b, h, h1, h2 => by
    have k0 : k ≠ 0 := fun z => by
      rw [z] at h1 h2
      omega
    obtain ⟨j, rfl⟩ : ∃ j, k = j + 1 := ⟨k - 1, by omega⟩
    rw [Nat.pow_succ] at h1 h2
    rw [M07.low]
    split
    · have := low_lt n j (a / 2) (b / 2) (by omega) (by omega) (by omega)
      omega
    · omega
theorem mk_le {k a b : Nat} (h : a ≠ b) (h1 : a < 2 ^ k) (h2 : b < 2 ^ k) : M07.mk a b + 1 ≤ 2 * k := by
  have := low_lt (a + b + 1) k a b h h1 h2
  unfold M07.mk
  omega
theorem marks_le {k : Nat} : ∀ (a : Nat) (l : List Nat), M07.Unl (a :: l) → (∀ x ∈ a :: l, x < 2 ^ k) → ∀ x ∈ M07.marks a l, x + 1 ≤ 2 * k
  | a, [], _, _, x, hx => nomatch hx
  | a, b :: r, u, h, x, hx => by
    rw [M07.marks] at hx
    rcases List.mem_cons.mp hx with rfl | hx
    · exact mk_le u.1 (h a List.mem_cons_self) (h b (List.mem_cons_of_mem _ List.mem_cons_self))
    · exact marks_le b r u.2 (fun y hy => h y (List.mem_cons_of_mem _ hy)) x hx
theorem round_le {k : Nat} (k1 : 1 ≤ k) {l : List Nat} (u : M07.Unl l) (h : ∀ x ∈ l, x < 2 ^ k) : ∀ x ∈ M07.round l, x + 1 ≤ 2 * k := fun x hx => by
  cases l with
  | nil => cases hx
  | cons a r =>
    rw [M07.round] at hx
    rcases List.mem_cons.mp hx with rfl | hx
    · omega
    · exact marks_le a r u h x hx
/-- after four rounds, marks below 2 ** 64 are at most 5 -/
theorem rounds_le {l : List Nat} (u : M07.Unl l) (h : ∀ x ∈ l, x < 2 ^ 64) : ∀ x ∈ M07.round (M07.round (M07.round (M07.round l))), x ≤ 5 := fun x hx => by
  have u1 := M07.round_unl _ u
  have u2 := M07.round_unl _ u1
  have u3 := M07.round_unl _ u2
  have b1 : ∀ x ∈ M07.round l, x < 2 ^ 7 := fun x hx => by have := round_le (by decide) u h x hx; omega
  have b2 : ∀ x ∈ M07.round (M07.round l), x < 2 ^ 4 := fun x hx => by have := round_le (by decide) u1 b1 x hx; omega
  have b3 : ∀ x ∈ M07.round (M07.round (M07.round l)), x < 2 ^ 3 := fun x hx => by have := round_le (by decide) u2 b2 x hx; omega
  have := round_le (by decide) u3 b3 x hx
  omega
end M82

set_option Elab.async false
set_option linter.all false
set_option maxRecDepth 100000
set_option maxHeartbeats 2000000
/-! t[::-1], t a tuple -/
namespace HT
open PySem PySem.Spec PyProof.Rows
section
variable {prog : Program} {w : World} {A : Around} {E : Value → Shared → Prop} {s : Shared}
theorem sliceApplied_rev {sl : Addr} {vk : Value} {n : Nat} {Q : Int × Int × Nat → Shared → Prop} (hs : s.heap.IsSliceOf sl .none .none vk) (pk : IsPart vk (some (-1)))
    (h : Q ((n : Int) - 1, -1, n) s) : wpAny (model prog w) A (Builtin.Slice.sliceApplied (.ref sl) (pure (n : Int))) Q E s := by
  obtain ⟨os, hos, hcs, hds⟩ := id hs
  unfold Builtin.Slice.sliceApplied Builtin.Slice.sliceFields
  refine wpAny_bind (wpAny_bind (wpAny_field hos hds (x := .none) rfl (wpAny_bind (wpAny_field hos hds (x := .none) rfl (wpAny_bind (wpAny_field hos hds (x := vk) rfl (wpAny_pure ?_)))))))
  refine wpAny_bind (slicePart_ pk ?_)
  show wpAny _ _ (if ((-1 : Int) == 0) = true then _ else _) _ _ s
  rw [if_neg (by decide)]
  refine wpAny_bind (slicePart_none (wpAny_bind (slicePart_none (wpAny_bind (wpAny_pure ?_)))))
  have e : Builtin.Slice.slicePlaces ((n : Int) - 1) (-1) (-1) = n := by
    unfold Builtin.Slice.slicePlaces
    have h1 : ¬ ((-1 : Int) > 0) := by omega
    simp only [h1, if_false]
    split
    · have : ((n : Int) - 1 - -1 - 1) / (- (-1)) = (n : Int) - 1 := by
        rw [show (- (-1 : Int)) = 1 by rfl, Int.ediv_one]
        omega
      rw [this]
      omega
    · omega
  show wpAny _ _ (pure ((n : Int) - 1, (-1 : Int), Builtin.Slice.slicePlaces ((n : Int) - 1) (-1) (-1))) _ _ s
  rw [e]
  exact wpAny_pure h
theorem fm_congr {f g : Nat → Option Value} : ∀ l : List Nat, (∀ m ∈ l, f m = g m) → l.filterMap f = l.filterMap g
  | [], _ => rfl
  | a :: l, h => by
    rw [List.filterMap_cons, List.filterMap_cons, h a List.mem_cons_self, fm_congr l fun m hm => h m (List.mem_cons_of_mem _ hm)]
theorem pick_rev (xs : Array Value) : ((List.range xs.size).filterMap fun (m : Nat) => xs[((xs.size : Int) - 1 + (m : Int) * (-1)).toNat]?).toArray = xs.toList.reverse.toArray := by
  have e : (List.range xs.size).filterMap (fun (m : Nat) => xs[((xs.size : Int) - 1 + (m : Int) * (-1)).toNat]?) = ((List.range xs.size).map fun k => xs.size - 1 - k).filterMap (xs[·]?) := by
    rw [List.filterMap_map]
    refine fm_congr _ fun m hm => ?_
    have := List.mem_range.mp hm
    show xs[((xs.size : Int) - 1 + (m : Int) * (-1)).toNat]? = xs[xs.size - 1 - m]?
    rw [show ((xs.size : Int) - 1 + (m : Int) * (-1)).toNat = xs.size - 1 - m by omega]
  rw [e, PySem.W.krv_range, List.filterMap_reverse, PySem.W.krv_all]
theorem getItem_tuple_rev {t sl : Addr} {items : Array Value} {vk : Value} {Q : Value → Shared → Prop} (ht : IsTup s.heap t items) (hs : s.heap.IsSliceOf sl .none .none vk) (pk : IsPart vk (some (-1)))
    (h : Q (.ref s.heap.objs.size) { s with heap := s.heap.push { cls := .type "tuple", data := .seq items.toList.reverse.toArray } })
    (hsz : items.size ≤ sizeLine) : wpAny (model prog w) A (getItem (.ref t) (.ref sl)) Q E s := by
  have htake : sizeOk (.seq items.toList.reverse.toArray) := by
    show items.toList.reverse.toArray.size ≤ sizeLine
    rw [List.size_toArray, List.length_reverse, Array.length_toList]
    exact hsz
  obtain ⟨os, hos, hcs, hds⟩ := id hs
  have hTs : s.TypeIs (.ref sl) "slice" := ⟨os, hos, hcs⟩
  unfold getItem
  try with_reducible refine wpAny_holding ?_
  first | refine wpAny_bind (wpAny_pure ?_) | skip
  refine wpAny_bind (wpAny_sequenceKey ht.typeIs (by decide) ?_)
  refine wpAny_bind (wpAny_callSpecial?_slot (name := Str.ofString "__getitem__") ht.typeIs PyProof.Rows.slot_tuple_getitem
    (wpAny_call_entry PyProof.Rows.slot_tuple_getitem ht.typeIs entry_tuple_getitem ?_ (args_tuple_getitem _ _)))
  show wpAny _ _ (Builtin.Tuple.tupleItemsOf (.ref t) >>= _) _ _ s
  refine wpAny_bind (tupleItemsOf_ ht ?_)
  refine wpAny_bind (wpAny_typeOf hTs ?_)
  rw [if_pos (by decide)]
  refine wpAny_bind (sliceApplied_rev hs pk ?_)
  have hno : ¬ ((((items.size : Int) - 1) == 0 && (-1 : Int) == 1 && items.size == items.size) = true) := by
    intro q
    rw [Bool.and_eq_true, Bool.and_eq_true] at q
    exact absurd q.1.2 (by decide)
  show wpAny _ _ (if (((items.size : Int) - 1) == 0 && (-1 : Int) == 1 && items.size == items.size) = true then _ else _) _ _ s
  rw [if_neg hno, pick_rev]
  first
    | exact wpAny_bind (m := Builtin.Tuple.tupleExact _) (wpAny_newObj_type (wpAny_pure ⟨_, rfl, wpAny_pure h⟩) htake)
    | exact wpAny_bind (m := Builtin.Tuple.tupleExact _) (wpAny_newObj_type (wpAny_bind (wpAny_pure (wpAny_pure ⟨_, rfl, wpAny_pure h⟩))) htake)
    | exact wpAny_bind (wpAny_bind (m := Builtin.Tuple.tupleExact _) (wpAny_newObj_type (wpAny_pure (wpAny_pure ⟨_, rfl, wpAny_pure h⟩)) htake))
    | exact wpAny_bind (wpAny_bind (m := Builtin.Tuple.tupleExact _) (wpAny_newObj_type (wpAny_pure ⟨_, rfl, wpAny_pure h⟩) htake))
end
end HT
namespace L2
open PySem PySem.Spec PyProof.Rows
section
variable {X : Cx} {e st : Expr} {te : TE} {tk : TO} {p2 pos : Pos}
def rRevT (K : PySem.W.Frag) : V → Hp → VK → Prop := fun x H Q => ∃ a xs, x = .ref a ∧ SqT K H a xs ∧ ∀ p, H p = none → Q (.ref p) (upd H p (.tup xs.reverse))
/-- t[::k], k = -1 -/
theorem pe_revT (he : PE X e te) (hk : PO X (some st) tk) (hst : ∀ v s : Value, subscripted (.Slice none none (some st) p2) false v s = operate [v, s] (getItem v s) := by intros; rfl) : PE X (.Subscript e (.Slice none none (some st) p2) pos) (fun σ H Q => te σ H fun x H1 => tk σ H1 fun k H2 => k = some (-1) ∧ rRevT X.K x H2 Q) := by
  refine ⟨fun pins s σ H Q I h => ?_⟩
  refine Subscript_ (thn (he.run pins s σ H _ I h) fun v s1 ⟨x, H1, I1, r1, q1⟩ => ?_)
  refine wpAny_Slice (thn (po_none.run pins s1 σ H1 (fun o H' => o = none ∧ H' = H1) I1 ⟨rfl, rfl⟩) fun vl s2 ⟨l, H2, I2, pl, el, e2⟩ => thn (po_none.run pins s2 σ H2 (fun o H' => o = none ∧ H' = H2) I2 ⟨rfl, rfl⟩) fun vu s3 ⟨u, H3, I3, pu, eu, e3⟩ => ?_)
  subst e2 el eu e3
  refine thn (hk.run pins s3 σ H3 _ I3 q1) fun vk s4 ⟨k, H4, I4, pk, ek, q4⟩ => ?_
  subst ek
  have evl : vl = .none := by cases pl; rfl
  have evu : vu = .none := by cases pu; rfl
  subst evl evu
  obtain ⟨a, xs, rfl, hx, q⟩ := q4
  cases r1
  have I5 : Inv X pins σ H4 { s4 with heap := s4.heap.push { cls := .type "slice", data := .fields #[.none, .none, vk] } } := I4.kept (t' := s4.toks) fun b ob q => Heap.get?_push_of_some _ q
  obtain ⟨its, r, ht, hz⟩ := I5.tuple hx
  have hg : wpAny (model X.prog X.w) X.A (getItem (.ref a) (.ref s4.heap.objs.size)) (EP X pins σ Q) X.xe { s4 with heap := s4.heap.push { cls := .type "slice", data := .fields #[.none, .none, vk] } } := by
    refine HT.getItem_tuple_rev ht (Heap.IsSliceOf.new ..) pk ?_ (by rw [List.size_toArray, ← r.length]; exact hz)
    refine ⟨.ref _, _, I5.laid (t' := s4.toks) (o := .tup xs.reverse) (fun b ob q => Heap.get?_push_of_some _ q) (Nat.le_refl _) ?_, rfl, q _ (I5.hok.fresh (Nat.le_refl _))⟩
    exact ⟨by rw [List.length_reverse]; exact hz, _, r.reverse, IsTup.new _ _⟩
  show wpAny (model X.prog X.w) X.A (subscriptTail e (.Slice none none (some st) p2) (.ref a) (.ref s4.heap.objs.size)) (EP X pins σ Q) X.xe { s4 with heap := s4.heap.push { cls := .type "slice", data := .fields #[.none, .none, vk] } }
  exact tail_any (ops := [.ref a, .ref s4.heap.objs.size]) ht.typeIs PyProof.Rows.slot_tuple_getitem.lookup hg (hst _ _)
end
end L2

set_option Elab.async false
set_option linter.all false
set_option maxRecDepth 100000
namespace C82
open PySem PySem.Spec PyProof.Rows L2 Loc RZ
def topS (i : Nat) : Stmt := PySem.Challenge.pw_localblocks_k82_whole_rows_with_equal_en.main.body.getD i (.Pass ⟨0, 0, 0, 0⟩)
abbrev sIsRun : Stmt := topS 1
abbrev sIsBlk : Stmt := topS 2
abbrev sRunOf : Stmt := topS 3
abbrev sText : Stmt := topS 4
abbrev sFirst : Stmt := topS 8
abbrev sFM : Stmt := topS 9
abbrev sFU : Stmt := topS 10
abbrev sCodeAt : Stmt := topS 11
abbrev sNext : Stmt := topS 12
abbrev sNm : Stmt := topS 13
abbrev sMarks : Stmt := topS 14
abbrev sPeaks : Stmt := topS 15
abbrev sCuts : Stmt := topS 16
abbrev sBlocks : Stmt := topS 17
abbrev sMade : Stmt := topS 18
abbrev sPot : Stmt := topS 20
abbrev sTake : Stmt := topS 21
abbrev sOf : Stmt := topS 22
abbrev sGround : Stmt := topS 23
abbrev sLeaf : Stmt := topS 24
abbrev sRow : Stmt := topS 25
abbrev sBlock : Stmt := topS 26
abbrev sTwins : Stmt := topS 27
abbrev sUnlike : Stmt := topS 28
abbrev sPool : Stmt := topS 29
abbrev s__law_same : Stmt := topS 30
abbrev s__law_added : Stmt := topS 31
abbrev s__law_out_of : Stmt := topS 32
abbrev s__law_rows_near : Stmt := topS 33
abbrev s__law_spots_right : Stmt := topS 34
abbrev sLaw : Stmt := topS 35
end C82

set_option Elab.async false
set_option linter.all false
set_option maxRecDepth 100000
namespace C82
open PySem PySem.Spec PyProof.Rows L2 Loc RZ
/-! ### the program's nodes -/
section
variable {P : Program} {w : World} {K : PySem.W.Frag} {mg : Str → Option Value} {base : Heap}
def spIsRun (K : PySem.W.Frag) : Sp := fun vs H Q _ => ∃ v n, vs = [v] ∧ NdV K H v n ∧ ∀ H', Same H H' → Q (.bl n.isRun) H'
def spIsBlk (K : PySem.W.Frag) : Sp := fun vs H Q _ => ∃ v n, vs = [v] ∧ NdV K H v n ∧ ∀ H', Same H H' → Q (.bl n.isBlk) H'
theorem scIsRun : FnScope ["value"] ["value"] (defScope sIsRun) := ⟨rfl, rfl, rfl, by decide +kernel, rfl, by decide +kernel, by decide +kernel⟩
theorem scIsBlk : FnScope ["value"] ["value"] (defScope sIsBlk) := ⟨rfl, rfl, rfl, by decide +kernel, rfl, by decide +kernel, by decide +kernel⟩
theorem shaped_one (s : Str) (h : PyData.canLay0 (.str s) = true) : SeqAt.shaped (.tuple [.str s]) = true := by
  unfold SeqAt.shaped
  rw [Bool.and_eq_true]
  exact ⟨by simp only [PyData.canLay0, PyData.canLayAll0] at h ⊢; rw [h]; rfl, decide_eq_true (by simp [PyData.depth, PyData.depthAll])⟩
theorem eqv_one (s t : Str) : PyData.eqv (.tuple [.str s]) (.tuple [.str t]) = (s == t) := by simp [PyData.eqv, PyData.eqvAll]
theorem ok_isrun {f : Addr} {fd : FuncData} {k : Nat} (F : Fun K "is_run" "is_run" sIsRun f fd) (mi : mg "isinstance" = none) (mt : mg "tuple" = none) : FnOk P w K mg base CX0 (k + 1) f fd ["value"] (spIsRun K) := by
  refine F.ok scIsRun (fun vs H Q E h => ?_) (fun cdv A outer s H vs Q E hr h => ?_)
  · obtain ⟨v, n, rfl, _⟩ := h
    rfl
  · obtain ⟨v, n, rfl, hn, q⟩ := h
    refine ⟨_, pss_one (ps_ret (pe_and (pe_callB call_isi (by rfl) mi PyProof.Rows.boot_isinstance (pa_cons (pv 0) (pa_cons (pe_bltn (v := .ty "tuple") (by rfl) mt PyProof.Rows.boot_tuple rfl) pa_nil)))
      (pe_one (pe_cmpR (op_eqD hr.units) (pe_slice sl_tupA (pv 0) po_none (po_some pe_int)) (pe_tup (pa_cons pe_str pa_nil)) (nomark _))))), ?_⟩
    cases n with
    | el n =>
      have ev := hn.el
      subst ev
      exact ⟨_, rfl, _, _, _, _, false, rfl, .ty "tuple", .base (.int _), kit_ty (by decide +kernel), _, rfl, q H (Same.refl H)⟩
    | run b c =>
      obtain ⟨a, v2, rfl, h1, h2⟩ := hn.run
      refine ⟨_, rfl, _, _, _, _, true, rfl, .ty "tuple", Loc.SqT.ty h1, kit_ty (by decide +kernel), _, rfl, ?_⟩
      refine ⟨.ref a, rfl, 1, rfl, a, _, rfl, h1, fun hw => absurd hw.2 (show ¬ HT.sIx 3 3 (some 1) = 3 by decide), fun hw p1 n1 => ⟨(show 1 ≤ sizeLine from by decide), fun p2 n2 => ?_⟩⟩
      refine ⟨.tuple [.str "run"], .tuple [.str "run"], .tup (.inl (.inl (sameN n2 _ _ upd_same))) (.cons (.str _) .nil), .tup (.inl (.inl upd_same)) (.cons (.str _) .nil), shaped_one _ str_run_ok.1, shaped_one _ str_run_ok.1, ?_⟩
      rw [eqv_one, beq_self_eq_true]
      exact q _ ((sameN n1).trans (sameN n2))
    | blk ps =>
      obtain ⟨a, b, vs, rfl, h1, h2, h3⟩ := hn.blk
      refine ⟨_, rfl, _, _, _, _, true, rfl, .ty "tuple", Loc.SqT.ty h1, kit_ty (by decide +kernel), _, rfl, ?_⟩
      refine ⟨.ref a, rfl, 1, rfl, a, _, rfl, h1, fun hw => absurd hw.2 (show ¬ HT.sIx 2 2 (some 1) = 2 by decide), fun hw p1 n1 => ⟨(show 1 ≤ sizeLine from by decide), fun p2 n2 => ?_⟩⟩
      refine ⟨.tuple [.str "block"], .tuple [.str "run"], .tup (.inl (.inl (sameN n2 _ _ upd_same))) (.cons (.str _) .nil), .tup (.inl (.inl upd_same)) (.cons (.str _) .nil), shaped_one _ str_run_ok.2, shaped_one _ str_run_ok.1, ?_⟩
      rw [eqv_one, unlike_sorts.2]
      exact q _ ((sameN n1).trans (sameN n2))
theorem ok_isblk {f : Addr} {fd : FuncData} {k : Nat} (F : Fun K "is_block" "is_block" sIsBlk f fd) (mi : mg "isinstance" = none) (mt : mg "tuple" = none) : FnOk P w K mg base CX0 (k + 1) f fd ["value"] (spIsBlk K) := by
  refine F.ok scIsBlk (fun vs H Q E h => ?_) (fun cdv A outer s H vs Q E hr h => ?_)
  · obtain ⟨v, n, rfl, _⟩ := h
    rfl
  · obtain ⟨v, n, rfl, hn, q⟩ := h
    refine ⟨_, pss_one (ps_ret (pe_and (pe_callB call_isi (by rfl) mi PyProof.Rows.boot_isinstance (pa_cons (pv 0) (pa_cons (pe_bltn (v := .ty "tuple") (by rfl) mt PyProof.Rows.boot_tuple rfl) pa_nil)))
      (pe_one (pe_cmpR (op_eqD hr.units) (pe_slice sl_tupA (pv 0) po_none (po_some pe_int)) (pe_tup (pa_cons pe_str pa_nil)) (nomark _))))), ?_⟩
    cases n with
    | el n =>
      have ev := hn.el
      subst ev
      exact ⟨_, rfl, _, _, _, _, false, rfl, .ty "tuple", .base (.int _), kit_ty (by decide +kernel), _, rfl, q H (Same.refl H)⟩
    | run b c =>
      obtain ⟨a, v2, rfl, h1, h2⟩ := hn.run
      refine ⟨_, rfl, _, _, _, _, true, rfl, .ty "tuple", Loc.SqT.ty h1, kit_ty (by decide +kernel), _, rfl, ?_⟩
      refine ⟨.ref a, rfl, 1, rfl, a, _, rfl, h1, fun hw => absurd hw.2 (show ¬ HT.sIx 3 3 (some 1) = 3 by decide), fun hw p1 n1 => ⟨(show 1 ≤ sizeLine from by decide), fun p2 n2 => ?_⟩⟩
      refine ⟨.tuple [.str "run"], .tuple [.str "block"], .tup (.inl (.inl (sameN n2 _ _ upd_same))) (.cons (.str _) .nil), .tup (.inl (.inl upd_same)) (.cons (.str _) .nil), shaped_one _ str_run_ok.1, shaped_one _ str_run_ok.2, ?_⟩
      rw [eqv_one, unlike_sorts.1]
      exact q _ ((sameN n1).trans (sameN n2))
    | blk ps =>
      obtain ⟨a, b, vs, rfl, h1, h2, h3⟩ := hn.blk
      refine ⟨_, rfl, _, _, _, _, true, rfl, .ty "tuple", Loc.SqT.ty h1, kit_ty (by decide +kernel), _, rfl, ?_⟩
      refine ⟨.ref a, rfl, 1, rfl, a, _, rfl, h1, fun hw => absurd hw.2 (show ¬ HT.sIx 2 2 (some 1) = 2 by decide), fun hw p1 n1 => ⟨(show 1 ≤ sizeLine from by decide), fun p2 n2 => ?_⟩⟩
      refine ⟨.tuple [.str "block"], .tuple [.str "block"], .tup (.inl (.inl (sameN n2 _ _ upd_same))) (.cons (.str _) .nil), .tup (.inl (.inl upd_same)) (.cons (.str _) .nil), shaped_one _ str_run_ok.2, shaped_one _ str_run_ok.2, ?_⟩
      rw [eqv_one, beq_self_eq_true]
      exact q _ ((sameN n1).trans (sameN n2))
/-- text_of, of nodes of less than m storeys -/
def spText (K : PySem.W.Frag) (m : Nat) : Sp := fun vs H Q _ => ∃ v n l, vs = [v] ∧ NdV K H v n ∧ Ok n l ∧ wide l ≤ 1000000 ∧ ht n < m ∧ ∀ H', Same H H' → Q (.str (txt n)) H'
theorem scText : FnScope ["node", "part"] ["node"] (defScope sText) := ⟨rfl, rfl, rfl, by decide +kernel, rfl, by decide +kernel, by decide +kernel⟩
theorem ok_text {f g b : Addr} {fd gd bd : FuncData} (F : Fun K "text_of" "text_of" sText f fd) (gF : mg "text_of" = some (.ref f)) (bF : Binds K fd ["node"] []) (R : Fun K "is_run" "is_run" sIsRun g gd) (gR : mg "is_run" = some (.ref g)) (bR : Binds K gd ["value"] [])
    (B : Fun K "is_block" "is_block" sIsBlk b bd) (gB : mg "is_block" = some (.ref b)) (bB : Binds K bd ["value"] []) (mi : mg "isinstance" = none) (mt : mg "tuple" = none) (ms : mg "str" = none) : ∀ m : Nat, FnOk P w K mg base CX0 (m + 1) f fd ["node"] (spText K m)
  | 0 => ⟨fun vs H Q E h => by obtain ⟨v, n, l, _, _, _, _, h, _⟩ := h; exact absurd h (Nat.not_lt_zero _), fun A outer s H args us vs Q E _ _ _ _ h => by obtain ⟨v, n, l, _, _, _, _, h, _⟩ := h; exact absurd h (Nat.not_lt_zero _)⟩
  | m + 1 => by
    have IH : FnOk P w K mg base CX0 (m + 1) f fd ["node"] (spText K m) := ok_text F gF bF R gR bR B gB bB mi mt ms m
    have GR : FnOk P w K mg base CX0 (m + 1) g gd ["value"] (spIsRun K) := ok_isrun R mi mt
    have GB : FnOk P w K mg base CX0 (m + 1) b bd ["value"] (spIsBlk K) := ok_isblk B mi mt
    refine F.ok scText (fun vs H Q E h => ?_) (fun cdv A outer s H vs Q E hr h => ?_)
    · obtain ⟨v, n, l, rfl, _⟩ := h
      rfl
    · obtain ⟨v, n, l, rfl, hn, ok, hw, hh, q⟩ := h
      refine ⟨_, pss_cons (ps_if (pt_val (pe_call GR hr (by rfl) gR R.kp bR .nil pass0 (pa_cons (pv 0) pa_nil)))
            (pss_one (ps_ret (pe_op op_add_str (pe_op op_add_str (pe_call IH hr (by rfl) gF F.kp bF .nil pass0 (pa_cons (pe_ix ix_tup (pv 0) pe_int (fun _ _ => rfl)) pa_nil)) pe_str) (pe_callTy call_str_int (by rfl) ms PyProof.Rows.boot_str (pa_cons (pe_ix ix_tup (pv 0) pe_int (fun _ _ => rfl)) pa_nil))))) pss_nil)
        (pss_cons (ps_if (pt_val (pe_call GB hr (by rfl) gB B.kp bB .nil pass0 (pa_cons (pv 0) pa_nil)))
            (pss_one (ps_ret (pe_op op_add_str (pe_op op_add_str pe_str (pe_join pe_str (pe_lc (own := [("part", 1)]) (g := gName 1) (tt := tYes) rfl scText.nd (pi_tup (pe_ix ix_tup (pv 0) pe_int (fun _ _ => rfl)))
              (blkOk_by (N := ["node", "part"]) (sc := defScope sText) (by decide +kernel)) (fun _ _ _ _ _ => pg_name (i := 1) scText.nd rfl (Or.inl rfl)) (fun _ _ _ _ _ => pts_nil)
              (fun _ _ _ _ _ => pe_call IH hr (by rfl) gF F.kp bF .nil pass0 (pa_cons (pv 1) pa_nil))))) pe_str))) pss_nil)
        (pss_one (ps_ret (pe_callTy call_str_int (by rfl) ms PyProof.Rows.boot_str (pa_cons (pv 0) pa_nil))))), ?_⟩
      have tl := txt_len n l ok
      refine ⟨v, rfl, v, n, rfl, hn, fun H1 s1 => ?_⟩
      have hn1 := hn.up (.of s1)
      cases n with
      | run b c =>
        refine ⟨_, rfl, iteT ?_⟩
        obtain ⟨a, v2, rfl, h1, h2⟩ := hn1.run
        unfold Ok at ok
        have tb := txt_len b l ok.2.2.2
        rw [ok.2.2.1] at tb
        simp only [Bool.false_eq_true, if_false] at tb
        have nl := numT_len (n := c) (k := 61) (by decide) (Nat.lt_of_le_of_lt ok.2.1 (by decide +kernel))
        have e1 : (Str.ofString "^").length = 1 := by decide +kernel
        refine ⟨.ref a, rfl, a, _, 1, v2, rfl, rfl, h1, rfl, v2, b, l, rfl, h2, ok.2.2.2, hw, ?_, fun H2 s2 => ?_⟩
        · unfold ht at hh
          omega
        refine ⟨_, _, rfl, rfl, ?_, .ref a, rfl, a, _, 2, .int c, rfl, rfl, sameT s2 h1, rfl, c, rfl, log60 ok.2.1, _, _, rfl, rfl, ?_, ?_⟩
        · rw [e1]
          exact Nat.le_trans (show (txt b).length + 1 ≤ 1000001 by omega) (by decide)
        · rw [strLen_append, e1]
          have : (numT c).length ≤ 61 := nl
          exact Nat.le_trans (show (txt b).length + 1 + (numT c).length ≤ 1000100 by omega) (by decide)
        · have := q H2 (s1.trans s2)
          unfold txt at this
          exact this
      | el n =>
        refine ⟨_, rfl, iteF ?_⟩
        refine ⟨v, rfl, v, .el n, rfl, hn1, fun H2 s2 => ⟨_, rfl, iteF ?_⟩⟩
        have ev := hn.el
        subst ev
        unfold Ok at ok
        refine ⟨_, rfl, n, rfl, log60 (Nat.le_trans ok.2 (by decide +kernel)), ?_⟩
        have := q H2 (s1.trans s2)
        unfold txt at this
        exact this
      | blk ps =>
        refine ⟨_, rfl, iteF ?_⟩
        refine ⟨v, rfl, v, .blk ps, rfl, hn1, fun H2 s2 => ⟨_, rfl, iteT ?_⟩⟩
        obtain ⟨a, bb, vs, rfl, h1, h2, h3⟩ := (hn1.up (.of s2)).blk
        have okc := ok
        unfold Ok at ok
        obtain ⟨l1, l2, l3, okp, _⟩ := ok
        have lv := h3.len
        have sm := txts_len ps (l - 1) okp
        obtain ⟨j, rfl⟩ : ∃ j, l = j + 1 := ⟨l - 1, by omega⟩
        simp only [Nat.add_sub_cancel] at sm okp
        have wj : wide (j + 1) = 3 * wide j + 110 := rfl
        have mm : ps.length * wide j ≤ 3 * wide j := Nat.mul_le_mul_right _ l3
        refine ⟨⟨_, rfl⟩, .ref a, rfl, a, _, 1, .ref bb, rfl, rfl, h1, rfl, bb, rfl, ⟨vs, h2⟩, fun D nD => ?_⟩
        refine lc_tup (xs := vs) (fun i H' => H' D = some (.lst (((txts ps).take i).map V.str)) ∧ Same H2 H') ⟨by rw [List.take_zero]; exact upd_same, sameN nD⟩ (fun i H' _ hp => sameT hp.2 h2) (fun i u H' hu hp => ?_) (fun H' hp => ?_)
        · obtain ⟨g1, s3⟩ := hp
          obtain ⟨x, hx, kx⟩ := (h3.up (.of s3)).get hu
          have hmem := List.mem_of_getElem? hx
          have ht2 : ht x < m := by
            have := hts_mem hmem
            unfold ht at hh
            omega
          have htx : (txts ps)[i]? = some (txt x) := by rw [txts_map, List.getElem?_map, hx]; rfl
          refine ⟨rfl, u, rfl, u, x, j, rfl, kx, okp.mem x hmem, by omega, ht2, fun H3 s4 => ⟨_, s4 _ _ g1, ?_, ?_, sameW (s3.trans s4) nD⟩⟩
          · rw [List.length_map]
            refine line5 (small_take ?_)
            rw [txts_map, List.length_map]
            omega
          · rw [upd_same, take_more htx, List.map_append]
            rfl
        · obtain ⟨g1, s3⟩ := hp
          have full : (txts ps).take vs.length = txts ps := List.take_of_length_le (by rw [txts_map, List.length_map, lv]; exact Nat.le_refl _)
          rw [full] at g1
          have e1 : (Str.ofString "(").length = 1 := by decide +kernel
          have e2 : (Str.ofString ")").length = 1 := by decide +kernel
          have e3 : (Str.ofString " ").length = 1 := by decide +kernel
          have e4 : (txts ps).length = ps.length := by rw [txts_map, List.length_map]
          have g := size_glued " " (txts ps)
          rw [e3, e4] at g
          have g' : (Txt.join " " (txts ps)).length = ((txts ps).map (·.length)).sum + (ps.length - 1) * 1 := g
          refine ⟨_, D, txts ps, rfl, rfl, .inl (.inl (.inl g1)), ?_, _, _, rfl, rfl, ?_, _, _, rfl, rfl, ?_, ?_⟩
          · rw [e3, e4]
            omega
          · rw [e1]
            refine Nat.le_trans (show 1 + (Txt.join " " (txts ps)).length ≤ 1000100 by omega) (by decide)
          · rw [strLen_append, e1, e2]
            refine Nat.le_trans (show 1 + (Txt.join " " (txts ps)).length + 1 ≤ 1000100 by omega) (by decide)
          · have := q H' (s1.trans (s2.trans s3))
            unfold txt at this
            exact this
end
/-! ### first marks -/
section
variable {P : Program} {w : World} {K : PySem.W.Frag} {mg : Str → Option Value} {base : Heap}
theorem scCode : FnScope ["text", "at"] ["text", "at"] (defScope sCodeAt) := ⟨rfl, rfl, rfl, by decide +kernel, rfl, by decide +kernel, by decide +kernel⟩
theorem scFU : FnScope ["one", "other", "at"] ["one", "other"] (defScope sFU) := ⟨rfl, rfl, rfl, by decide +kernel, rfl, by decide +kernel, by decide +kernel⟩
theorem scFM : FnScope ["texts", "place", "first"] ["texts", "place"] (defScope sFM) := ⟨rfl, rfl, rfl, by decide +kernel, rfl, by decide +kernel, by decide +kernel⟩
theorem scFirst : FnScope ["row", "texts", "node", "place"] ["row"] (defScope sFirst) := ⟨rfl, rfl, rfl, by decide +kernel, rfl, by decide +kernel, by decide +kernel⟩
def spCode : Sp := fun vs H Q _ => ∃ (s : Str) (t : List Nat) (i : Nat), vs = [.str s, .int i] ∧ TL.tl s = t ∧ (∀ c ∈ t, Sg c) ∧ s.length ≤ sizeLine ∧ Q (.int (codeAt t i : Nat)) H
def spFU : Sp := fun vs H Q _ => ∃ (s t : Str), vs = [.str s, .str t] ∧ s.length ≤ sizeLine ∧ t.length ≤ sizeLine ∧ Q (.int (cp (TL.tl s) (TL.tl t) : Nat)) H
theorem ok_code {f : Addr} {fd : FuncData} {k : Nat} {tS tE : Tok} (F : Fun K "_code_at" "_code_at" sCodeAt f fd) (ml : mg "len" = none) (gS : mg "SIGNS" = some (.str "0123456789 ()^" tS)) (gE : mg "ENDED" = some (.int 14 tE)) : FnOk P w K mg base CX0 (k + 1) f fd ["text", "at"] spCode := by
  refine F.ok scCode (fun vs H Q E h => ?_) (fun cdv A outer s H vs Q E hr h => ?_)
  · obtain ⟨s, t, i, rfl, _⟩ := h
    rfl
  · obtain ⟨x, t, i, rfl, rfl, hs, hl, q⟩ := h
    refine ⟨_, pss_cons (ps_if (pt_cmpR op_lt (pv 1) (pe_callB call_len_str (by rfl) ml PySem.boot_len (pa_cons (pv 0) pa_nil)) (nomark _))
        (pss_one (ps_ret (pe_m1 PySem.F.slot_str_index PySem.F.type_str_index mt_sindex (pe_glob (v := .str "0123456789 ()^") (by rfl) gS ⟨_, rfl⟩) (pe_ix ix_str (pv 0) (pv 1) (fun _ _ => rfl)) (by rfl) (by rfl) (by rfl)))) pss_nil)
      (pss_one (ps_ret (pe_glob (v := .int 14) (by rfl) gE ⟨_, rfl⟩))), ?_⟩
    refine ⟨_, rfl, _, rfl, x, rfl, hl, _, _, rfl, rfl, _, rfl, ite2 (fun e => ?_) (fun e => ?_)⟩
    · have e1 : (i : Int) < ((x.length : Nat) : Int) := of_decide_eq_true e
      rw [TL.len_tl] at e1
      obtain ⟨c, hc⟩ := get_of (l := TL.tl x) (i := i) (by omega)
      obtain ⟨rest, eo⟩ := sign_at (hs c (List.mem_of_getElem? hc))
      rw [codeAt_some hc] at q
      exact ⟨⟨_, rfl⟩, _, rfl, _, rfl, x, i, c, rfl, rfl, hl, atI_nat hc, _, _, _, rest, rfl, rfl, eo, q⟩
    · have e1 : ¬ (i : Int) < ((x.length : Nat) : Int) := fun z => e (decide_eq_true z)
      rw [TL.len_tl] at e1
      rw [codeAt_none (List.getElem?_eq_none_iff.mpr (by omega))] at q
      exact q
theorem ok_fu {f : Addr} {fd : FuncData} {k : Nat} (F : Fun K "_first_unlike" "_first_unlike" sFU f fd) (ml : mg "len" = none) : FnOk P w K mg base CX0 (k + 1) f fd ["one", "other"] spFU := by
  refine F.ok scFU (fun vs H Q E h => ?_) (fun cdv A outer s H vs Q E hr h => ?_)
  · obtain ⟨s, t, rfl, _⟩ := h
    rfl
  · obtain ⟨x, y, rfl, hx, hy, q⟩ := h
    refine ⟨_, pss_cons (ps_set (i := 2) scFU.nd rfl (.inl rfl) pe_int)
      (pss_cons (ps_while PassesOwn.never (PW.pt (pw_and (pt_cmpR op_lt (pv 2) (pe_callB call_len_str (by rfl) ml PySem.boot_len (pa_cons (pv 0) pa_nil)) (nomark _))
          (pw_and (pt_cmpR op_lt (pv 2) (pe_callB call_len_str (by rfl) ml PySem.boot_len (pa_cons (pv 1) pa_nil)) (nomark _))
          (pw_and1 (pt_cmpR op_eq (pe_ix ix_str (pv 0) (pv 2) (fun _ _ => rfl)) (pe_ix ix_str (pv 1) (pv 2) (fun _ _ => rfl)) (nomark _))))))
        (pss_one (ps_aug (i := 2) scFU.nd rfl (.inl rfl) pe_int ip_add)))
      (pss_one (ps_ret (pv 2)))), ?_⟩
    refine ⟨fun m σ H' => ∃ i : Nat, i + m = cp (TL.tl x) (TL.tl y) ∧ σ = [some (.str x), some (.str y), some (.int i)] ∧ H' = H, ⟨_, 0, Nat.zero_add _, rfl, rfl⟩, ?_⟩
    rintro m σ H' ⟨i, im, rfl, rfl⟩
    have lx := TL.len_tl x
    have ly := TL.len_tl y
    refine ⟨_, rfl, _, rfl, x, rfl, hx, _, _, rfl, rfl, _, rfl, ?_⟩
    by_cases c1 : i < (TL.tl x).length
    · obtain ⟨c, hc⟩ := get_of c1
      rw [show decide ((i : Int) < ((x.length : Nat) : Int)) = true from decide_eq_true (by omega)]
      refine ⟨_, rfl, _, rfl, y, rfl, hy, _, _, rfl, rfl, _, rfl, ?_⟩
      by_cases c2 : i < (TL.tl y).length
      · obtain ⟨d, hd⟩ := get_of c2
        rw [show decide ((i : Int) < ((y.length : Nat) : Int)) = true from decide_eq_true (by omega)]
        refine ⟨_, rfl, _, rfl, x, i, c, rfl, rfl, hx, atI_nat hc, _, rfl, _, rfl, y, i, d, rfl, rfl, hy, atI_nat hd, rfl, _, rfl, ?_⟩
        rw [Loc.one_sign]
        by_cases e : c = d
        · rw [decide_eq_true e]
          have hlt : i < cp (TL.tl x) (TL.tl y) := by
            rcases Nat.lt_or_ge i (cp (TL.tl x) (TL.tl y)) with z | z
            · exact z
            · have : i = cp (TL.tl x) (TL.tl y) := by omega
              rw [this] at hc hd
              exact absurd e (cp_stop _ _ c d hc hd)
          refine ⟨fun σ' H'' => σ' = [some (.str x), some (.str y), some (.int ((i + 1 : Nat) : Int))] ∧ H'' = H', fun σ' H'' hN => ⟨m - 1, by omega, i + 1, by omega, hN.1, hN.2⟩, ?_⟩
          refine ⟨_, rfl, i, 1, rfl, rfl, ?_, rfl⟩
          rw [Int.natCast_add]
          rfl
        · rw [decide_eq_false e]
          have : i = cp (TL.tl x) (TL.tl y) := by
            rcases Nat.lt_or_ge i (cp (TL.tl x) (TL.tl y)) with z | z
            · obtain ⟨u, h1, h2⟩ := cp_same _ _ i z
              rw [hc] at h1
              rw [hd] at h2
              exact absurd ((Option.some.inj h1).trans (Option.some.inj h2).symm) e
            · omega
          rw [← this] at q
          exact ⟨_, rfl, q⟩
      · rw [show decide ((i : Int) < ((y.length : Nat) : Int)) = false from decide_eq_false (by omega)]
        have : i = cp (TL.tl x) (TL.tl y) := by
          have := (cp_le (TL.tl x) (TL.tl y)).2
          omega
        rw [← this] at q
        exact ⟨_, rfl, q⟩
    · rw [show decide ((i : Int) < ((x.length : Nat) : Int)) = false from decide_eq_false (by omega)]
      have : i = cp (TL.tl x) (TL.tl y) := by
        have := (cp_le (TL.tl x) (TL.tl y)).1
        omega
      rw [← this] at q
      exact ⟨_, rfl, q⟩
def spFM (K : PySem.W.Frag) : Sp := fun vs H Q _ => ∃ (a : Addr) (ns : List Nd) (l : Nat) (z : Int) (i m : Nat), vs = [.ref a, .int z] ∧ z = i ∧ SqL K H a (vT ns) ∧ OkAll ns l ∧ wide l ≤ 1000000 ∧ (fms (ns.map cd))[i]? = some m ∧ Q (.int (m : Nat)) H
theorem ok_fm {f g c : Addr} {fd gd cd' : FuncData} {k : Nat} {tS tE : Tok} (F : Fun K "_first_mark" "_first_mark" sFM f fd) (U : Fun K "_first_unlike" "_first_unlike" sFU g gd) (gU : mg "_first_unlike" = some (.ref g)) (bU : Binds K gd ["one", "other"] [])
    (C : Fun K "_code_at" "_code_at" sCodeAt c cd') (gC : mg "_code_at" = some (.ref c)) (bC : Binds K cd' ["text", "at"] []) (ml : mg "len" = none) (gS : mg "SIGNS" = some (.str "0123456789 ()^" tS)) (gE : mg "ENDED" = some (.int 14 tE)) :
    FnOk P w K mg base CX0 (k + 2) f fd ["texts", "place"] (spFM K) := by
  have GU : FnOk P w K mg base CX0 (k + 1) g gd ["one", "other"] spFU := ok_fu U ml
  have GC : FnOk P w K mg base CX0 (k + 1) c cd' ["text", "at"] spCode := ok_code C ml gS gE
  refine F.ok scFM (fun vs H Q E h => ?_) (fun cdv A outer s H vs Q E hr h => ?_)
  · obtain ⟨a, ns, l, z, i, m, rfl, _⟩ := h
    rfl
  · obtain ⟨a, ns, l, z, i, m, rfl, rfl, hS, ok, hw, hm, q⟩ := h
    refine ⟨_, pss_cons (ps_if (pt_cmpR op_eq (pv 1) pe_int (nomark _)) (pss_one (ps_ret (pe_call GC hr (by rfl) gC C.kp bC .nil pass0 (pa_cons (pe_ix ix_list (pv 0) pe_int (fun _ _ => rfl)) (pa_cons pe_int pa_nil))))) pss_nil)
      (pss_cons (ps_set (i := 2) scFM.nd rfl (.inl rfl) (pe_call GU hr (by rfl) gU U.kp bU .nil pass0 (pa_cons (pe_ix ix_list (pv 0) (pe_op op_sub (pv 1) pe_int) (fun _ _ => rfl)) (pa_cons (pe_ix ix_list (pv 0) (pv 1) (fun _ _ => rfl)) pa_nil))))
      (pss_one (ps_ret (pe_op op_add (pe_op op_mul pe_int (pv 2)) (pe_call GC hr (by rfl) gC C.kp bC .nil pass0 (pa_cons (pe_ix ix_list (pv 0) (pv 1) (fun _ _ => rfl)) (pa_cons (pv 2) pa_nil))))))), ?_⟩
    have hi : i < ns.length := by
      have := (List.getElem?_eq_some_iff.mp hm).1
      rwa [fms_length, List.length_map] at this
    refine ⟨_, rfl, rfl, _, rfl, ite2 (fun e => ?_) (fun e => ?_)⟩
    · have e0 : (i : Int) = 0 := V.int.inj (of_decide_eq_true e)
      have e1 : i = 0 := by omega
      subst e1
      obtain ⟨n, hn⟩ := get_of hi
      have okn := ok.mem n (List.mem_of_getElem? hn)
      refine ⟨.ref a, rfl, a, _, ((0 : Nat) : Int), .str (txt n), rfl, rfl, hS, atI_nat (vT_get hn), txt n, cd n, 0, rfl, tl_txt n, cd_sg n, (len_cd okn hw).2, ?_⟩
      have : (fms (ns.map cd))[0]? = some (codeAt (cd n) 0) := by
        match ns, hn with
        | x :: r, hn =>
          have : x = n := by simpa using hn
          rw [this]
          rfl
      rw [hm] at this
      rw [← Option.some.inj this]
      exact q
    · have e1 : i ≠ 0 := fun z => e (by rw [z]; rfl)
      obtain ⟨j, rfl⟩ : ∃ j, i = j + 1 := ⟨i - 1, by omega⟩
      obtain ⟨x, hx⟩ := get_of (l := ns) (i := j) (by omega)
      obtain ⟨y, hy⟩ := get_of hi
      have okx := ok.mem x (List.mem_of_getElem? hx)
      have oky := ok.mem y (List.mem_of_getElem? hy)
      have em := fms_get (ns.map cd) j (cd x) (cd y) (by rw [List.getElem?_map, hx]; rfl) (by rw [List.getElem?_map, hy]; rfl)
      rw [hm] at em
      have em := Option.some.inj em
      refine ⟨.ref a, rfl, _, rfl, _, 1, rfl, rfl, a, _, _, .str (txt x), rfl, rfl, hS, at_of (j := j) (by omega) (vT_get hx), .ref a, rfl, _, rfl, a, _, _, .str (txt y), rfl, rfl, hS, atI_nat (vT_get hy), txt x, txt y, rfl, (len_cd okx hw).2, (len_cd oky hw).2, ?_⟩
      rw [tl_txt, tl_txt]
      refine ⟨_, rfl, 16, _, rfl, rfl, .inl ⟨by decide, by decide⟩, .ref a, rfl, _, rfl, a, _, _, .str (txt y), rfl, rfl, hS, atI_nat (vT_get hy), _, rfl, txt y, cd y, cp (cd x) (cd y), rfl, tl_txt y, cd_sg y, (len_cd oky hw).2, _, _, rfl, rfl, ?_⟩
      rw [em] at q
      unfold fmk at q
      rw [Int.natCast_add, Int.natCast_mul] at q
      exact q
/-- first_marks, of rows of nodes of less than m storeys -/
def spFirst (K : PySem.W.Frag) (m : Nat) : Sp := fun vs H Q _ => ∃ (a : Addr) (us : List V) (ns : List Nd) (l : Nat), vs = [.ref a] ∧ SqT K H a us ∧ NdsV K H us ns ∧ OkAll ns l ∧ wide l ≤ 1000000 ∧ (∀ n ∈ ns, ht n < m) ∧ ns.length ≤ 100000 ∧
  ∀ H' p, Same H H' → H' p = some (.tup ((fms (ns.map cd)).map fun n : Nat => V.int (n : Int))) → Q (.ref p) H'
structure FirstF (K : PySem.W.Frag) (mg : Str → Option Value) (fA fC fX f1 f2 f3 : Addr) (dA dC dX d1 d2 d3 : FuncData) (tS tE : Tok) : Prop where
  A : Fun K "is_run" "is_run" sIsRun fA dA
  C : Fun K "is_block" "is_block" sIsBlk fC dC
  X : Fun K "text_of" "text_of" sText fX dX
  F1 : Fun K "_first_mark" "_first_mark" sFM f1 d1
  F2 : Fun K "_first_unlike" "_first_unlike" sFU f2 d2
  F3 : Fun K "_code_at" "_code_at" sCodeAt f3 d3
  gA : mg "is_run" = some (.ref fA)
  gC : mg "is_block" = some (.ref fC)
  gX : mg "text_of" = some (.ref fX)
  gF1 : mg "_first_mark" = some (.ref f1)
  gF2 : mg "_first_unlike" = some (.ref f2)
  gF3 : mg "_code_at" = some (.ref f3)
  bA : Binds K dA ["value"] []
  bC : Binds K dC ["value"] []
  bX : Binds K dX ["node"] []
  bF1 : Binds K d1 ["texts", "place"] []
  bF2 : Binds K d2 ["one", "other"] []
  bF3 : Binds K d3 ["text", "at"] []
  SIGNS : mg "SIGNS" = some (.str "0123456789 ()^" tS)
  ENDED : mg "ENDED" = some (.int 14 tE)
  len : mg "len" = none
  tuple : mg "tuple" = none
  range : mg "range" = none
  isinstance : mg "isinstance" = none
  str : mg "str" = none
theorem ok_first {fA fC fX f1 f2 f3 f : Addr} {dA dC dX d1 d2 d3 fd : FuncData} {tS tE : Tok} (F : Fun K "first_marks" "first_marks" sFirst f fd) (X : FirstF K mg fA fC fX f1 f2 f3 dA dC dX d1 d2 d3 tS tE) (m : Nat) : FnOk P w K mg base CX0 (m + 3) f fd ["row"] (spFirst K m) := by
  have GX : FnOk P w K mg base CX0 (m + 1) fX dX ["node"] (spText K m) := ok_text X.X X.gX X.bX X.A X.gA X.bA X.C X.gC X.bC X.isinstance X.tuple X.str m
  have G1 : FnOk P w K mg base CX0 (m + 2) f1 d1 ["texts", "place"] (spFM K) := ok_fm X.F1 X.F2 X.gF2 X.bF2 X.F3 X.gF3 X.bF3 X.len X.SIGNS X.ENDED
  refine F.ok scFirst (fun vs H Q E h => ?_) (fun cdv A outer s H vs Q E hr h => ?_)
  · obtain ⟨a, us, ns, l, rfl, _⟩ := h
    rfl
  · obtain ⟨a, us, ns, l, rfl, hS, hn, ok, hw, hh, hl, q⟩ := h
    have r1 := hr.mono (j := m + 1) (by omega)
    refine ⟨_, pss_cons (ps_set (i := 1) scFirst.nd rfl (.inr rfl) (pe_lc (own := [("node", 2)]) (g := gName 2) (tt := tYes) rfl scFirst.nd (pi_tup (pv 0)) (blkOk_by (N := ["row", "texts", "node", "place"]) (sc := defScope sFirst) (by decide +kernel))
        (fun _ _ _ _ _ => pg_name (i := 2) scFirst.nd rfl (Or.inl rfl)) (fun _ _ _ _ _ => pts_nil) (fun _ _ _ _ _ => pe_call GX r1 (by rfl) X.gX X.X.kp X.bX .nil pass0 (pa_cons (pv 2) pa_nil))))
      (pss_one (ps_ret (pe_callTy call_tuple_of (by rfl) X.tuple PyProof.Rows.boot_tuple (pa_cons (pe_lc (own := [("place", 3)]) (g := gName 3) (tt := tYes) rfl scFirst.nd
        (pi_range1 (by rfl) X.range (pa_cons (pe_callB call_len_seq (by rfl) X.len PySem.boot_len (pa_cons (pv 1) pa_nil)) pa_nil)) (blkOk_by (N := ["row", "texts", "node", "place"]) (sc := defScope sFirst) (by decide +kernel))
        (fun _ _ _ _ _ => pg_name (i := 3) scFirst.nd rfl (Or.inl rfl)) (fun _ _ _ _ _ => pts_nil)
        (fun _ _ _ _ _ => pe_call G1 hr (by rfl) X.gF1 X.F1.kp X.bF1 .nil pass0 (pa_cons (pv 1) (pa_cons (pv 3) pa_nil)))) pa_nil)))), ?_⟩
    have hlu := hn.len
    refine ⟨.ref a, rfl, a, rfl, ⟨us, hS⟩, fun D nD => ?_⟩
    refine lc_tup (xs := us) (fun i H' => H' D = some (.lst (vT (ns.take i))) ∧ Same H H') ⟨by rw [List.take_zero]; exact upd_same, sameN nD⟩ (fun i H' _ hp => sameT hp.2 hS) (fun i u H' hu hp => ?_) (fun H1 hp => ?_)
    · obtain ⟨g1, s3⟩ := hp
      obtain ⟨x, hx, kx⟩ := (hn.up (.of s3)).get hu
      have hmem := List.mem_of_getElem? hx
      refine ⟨rfl, u, rfl, u, x, l, rfl, kx, ok.mem x hmem, hw, hh x hmem, fun H3 s4 => ⟨_, s4 _ _ g1, ?_, ?_, sameW (s3.trans s4) nD⟩⟩
      · rw [List.length_map]
        exact line5 (small_take hl)
      · rw [upd_same, take_more hx]
        exact congrArg (fun z => some (HO.lst z)) (show vT (ns.take i) ++ [V.str (txt x)] = vT (ns.take i ++ [x]) by unfold vT; rw [List.map_append]; rfl)
    obtain ⟨g1, s1⟩ := hp
    rw [hlu, List.take_length] at g1
    have lf : (fms (ns.map cd)).length = ns.length := by rw [fms_length, List.length_map]
    have lv : (vT ns).length = ns.length := List.length_map _
    refine ⟨.ref D, rfl, D, vT ns, rfl, .inl (.inl (.inl g1)), _, rfl, ?_, ?_, fun D2 nD2 => ?_⟩
    · show -(2 ^ 62) ≤ (((vT ns).length : Nat) : Int)
      omega
    · show (((vT ns).length : Nat) : Int) < 2 ^ 62
      rw [lv]
      omega
    refine lc_range (fun i H' => H' = upd H1 D2 (.lst (((fms (ns.map cd)).take i).map fun n : Nat => V.int (n : Int)))) (by rw [List.take_zero]; rfl) (fun i H' hi hp => ?_) (fun H' hp => ?_)
    · subst hp
      rw [Int.toNat_natCast, lv] at hi
      obtain ⟨mk, hmk⟩ := get_of (l := fms (ns.map cd)) (i := i) (by omega)
      refine ⟨rfl, .ref D, rfl, _, rfl, D, ns, l, _, i, mk, rfl, by omega, .inl (.inl (sameN nD2 _ _ g1)), ok, hw, hmk, _, upd_same, ?_, ?_⟩
      · rw [List.length_map]
        exact line5 (small_take (by omega))
      · rw [upd_upd, take_more hmk]
        exact congrArg (fun z => upd H1 D2 (.lst z)) (show ((fms (ns.map cd)).take i).map (fun n : Nat => V.int (n : Int)) ++ [V.int (mk : Int)] = ((fms (ns.map cd)).take i ++ [mk]).map (fun n : Nat => V.int (n : Int)) by rw [List.map_append]; rfl)
    · subst hp
      rw [Int.toNat_natCast, lv, ← lf, List.take_length]
      refine ⟨D2, _, rfl, .inl ⟨.inl (.inl upd_same), fun t nt => ?_⟩⟩
      exact q _ t (s1.trans ((sameN nD2).trans (sameN nt))) upd_same
end
/-! ### the later rounds -/
abbrev vN (ns : List Nat) : List V := ns.map fun n : Nat => V.int (n : Int)
theorem vN_get {ns : List Nat} {i n : Nat} (h : ns[i]? = some n) : (vN ns)[i]? = some (.int (n : Int)) := by
  rw [List.getElem?_map, h]
  rfl
theorem vN_len (ns : List Nat) : (vN ns).length = ns.length := List.length_map _
theorem vN_app (ns : List Nat) (n : Nat) : vN (ns ++ [n]) = vN ns ++ [.int (n : Int)] := List.map_append
section
variable {P : Program} {w : World} {K : PySem.W.Frag} {mg : Str → Option Value} {base : Heap}
theorem scNm : FnScope ["some", "place", "unlike", "lowest"] ["some", "place"] (defScope sNm) := ⟨rfl, rfl, rfl, by decide +kernel, rfl, by decide +kernel, by decide +kernel⟩
theorem scNext : FnScope ["some", "place"] ["some"] (defScope sNext) := ⟨rfl, rfl, rfl, by decide +kernel, rfl, by decide +kernel, by decide +kernel⟩
def spNm (K : PySem.W.Frag) : Sp := fun vs H Q _ => ∃ (a : Addr) (ns : List Nat) (z : Int) (i m : Nat), vs = [.ref a, .int z] ∧ z = i ∧ SqT K H a (vN ns) ∧ M07.Unl ns ∧ (M07.round ns)[i]? = some m ∧ Q (.int (m : Int)) H
theorem ok_nm {f : Addr} {fd : FuncData} {k : Nat} (F : Fun K "_next_mark" "_next_mark" sNm f fd) : FnOk P w K mg base CX0 (k + 1) f fd ["some", "place"] (spNm K) := by
  refine F.ok scNm (fun vs H Q E h => ?_) (fun cdv A outer s H vs Q E hr h => ?_)
  · obtain ⟨a, ns, z, i, m, rfl, _⟩ := h
    rfl
  · obtain ⟨a, ns, z, i, m, rfl, rfl, hS, un, hm, q⟩ := h
    refine ⟨_, pss_cons (ps_if (pt_cmpR op_eq (pv 1) pe_int (nomark _)) (pss_one (ps_ret (pe_op op_and (pe_ix ix_tup (pv 0) pe_int (fun _ _ => rfl)) pe_int))) pss_nil)
      (pss_cons (ps_set (i := 2) scNm.nd rfl (.inl rfl) (pe_op op_xor (pe_ix ix_tup (pv 0) (pe_op op_sub (pv 1) pe_int) (fun _ _ => rfl)) (pe_ix ix_tup (pv 0) (pv 1) (fun _ _ => rfl))))
      (pss_cons (ps_set (i := 3) scNm.nd rfl (.inl rfl) (pe_op op_sub (pe_bits (pe_op op_and (pv 2) (pe_un un_neg (pv 2)))) pe_int))
      (pss_one (ps_ret (pe_op op_add (pe_op op_mul pe_int (pv 3)) (pe_op op_and (pe_op op_shr (pe_ix ix_tup (pv 0) (pv 1) (fun _ _ => rfl)) (pv 3)) pe_int)))))), ?_⟩
    have hi : i < ns.length := by
      have := (List.getElem?_eq_some_iff.mp hm).1
      rwa [M07.round_length] at this
    refine ⟨.int i, rfl, rfl, _, rfl, ite2 (fun e => ?_) (fun e => ?_)⟩
    · have e0 : (i : Int) = 0 := V.int.inj (of_decide_eq_true e)
      have e1 : i = 0 := by omega
      subst e1
      match ns, hi, hm, hS with
      | n :: r, _, hm, hS =>
        have e2 : n % 2 = m := Option.some.inj hm
        refine ⟨.ref a, rfl, a, _, ((0 : Nat) : Int), .int n, rfl, rfl, hS, atI_nat (by rfl), n, 1, rfl, rfl, ?_⟩
        show Q (.int (Builtin.bitAnd (n : Int) 1)) H
        rw [PyProof.Rows.bitAnd_m1, ← show ((m : Nat) : Int) = (n : Int) % 2 by omega]
        exact q
    · have e1 : i ≠ 0 := fun z => e (by rw [z]; rfl)
      obtain ⟨j, rfl⟩ : ∃ j, i = j + 1 := ⟨i - 1, by omega⟩
      have gx : ns[j]? = some ns[j] := List.getElem?_eq_getElem (by omega)
      have gy : ns[j + 1]? = some ns[j + 1] := List.getElem?_eq_getElem hi
      have hne := M07.Unl.get un gx gy
      generalize ns[j] = x at gx hne
      generalize ns[j + 1] = y at gy hne
      have em := M07.round_get ns j x y gx gy
      rw [hm] at em
      have em := Option.some.inj em
      refine ⟨.ref a, rfl, .int ((j + 1 : Nat) : Int), rfl, _, 1, rfl, rfl, a, _, (j : Nat), .int x, rfl, ?_, hS, atI_nat (vN_get gx), .ref a, rfl, .int ((j + 1 : Nat) : Int), rfl, a, _, ((j + 1 : Nat) : Int), .int y, rfl, rfl, hS, atI_nat (vN_get gy), x, y, rfl, rfl, ?_⟩
      · show V.int (((j + 1 : Nat) : Int) - 1) = V.int (j : Nat)
        congr 1
        omega
      refine ⟨_, rfl, _, rfl, _, rfl, _, _, rfl, rfl, _, rfl, _, 1, rfl, rfl, _, rfl, 2, _, rfl, rfl, .inl ⟨by decide, by decide⟩, .ref a, rfl, .int ((j + 1 : Nat) : Int), rfl, a, _, ((j + 1 : Nat) : Int), .int y, rfl, rfl, hS, atI_nat (vN_get gy), _, rfl, y, _, rfl, rfl, ?_,
        _, 1, rfl, rfl, _, _, rfl, rfl, ?_⟩
      · show (0 : Int) ≤ ((Builtin.Int.intBits (Builtin.bitAnd (Builtin.bitXor (x : Int) (y : Int)) (-(Builtin.bitXor (x : Int) (y : Int)))) : Nat) : Int) - 1
        rw [M07.low_word hne]
        omega
      · have mw := M07.mark_word hne
        rw [← em] at mw
        rw [← mw] at q
        exact q
/-- next_marks -/
def spNext (K : PySem.W.Frag) : Sp := fun vs H Q _ => ∃ (a : Addr) (ns : List Nat), vs = [.ref a] ∧ SqT K H a (vN ns) ∧ M07.Unl ns ∧ ns.length ≤ 100000 ∧
  ∀ H' p, Same H H' → H' p = some (.tup (vN (M07.round ns))) → Q (.ref p) H'
theorem ok_next {f g : Addr} {fd gd : FuncData} {k : Nat} (F : Fun K "next_marks" "next_marks" sNext f fd) (M : Fun K "_next_mark" "_next_mark" sNm g gd) (gM : mg "_next_mark" = some (.ref g)) (bM : Binds K gd ["some", "place"] [])
    (ml : mg "len" = none) (mr : mg "range" = none) (mt : mg "tuple" = none) : FnOk P w K mg base CX0 (k + 2) f fd ["some"] (spNext K) := by
  have GM : FnOk P w K mg base CX0 (k + 1) g gd ["some", "place"] (spNm K) := ok_nm M
  refine F.ok scNext (fun vs H Q E h => ?_) (fun cdv A outer s H vs Q E hr h => ?_)
  · obtain ⟨a, ns, rfl, _⟩ := h
    rfl
  · obtain ⟨a, ns, rfl, hS, un, hl, q⟩ := h
    refine ⟨_, pss_one (ps_ret (pe_callTy call_tuple_of (by rfl) mt (by decide +kernel) (pa_cons (pe_lc (own := [("place", 1)]) (g := gName 1) (tt := tYes) rfl scNext.nd
      (pi_range1 (by rfl) mr (pa_cons (pe_callB call_len_seq (by rfl) ml PySem.boot_len (pa_cons (pv 0) pa_nil)) pa_nil)) (blkOk_by (N := ["some", "place"]) (sc := defScope sNext) (by decide +kernel))
      (fun _ _ _ _ _ => pg_name (i := 1) scNext.nd rfl (Or.inl rfl)) (fun _ _ _ _ _ => pts_nil)
      (fun _ _ _ _ _ => pe_call GM hr (by rfl) gM M.kp bM .nil pass0 (pa_cons (pv 0) (pa_cons (pv 1) pa_nil)))) pa_nil))), ?_⟩
    refine ⟨.ref a, rfl, a, _, rfl, .inr hS, _, rfl, ?_, ?_, fun D hD => ?_⟩
    · show -(2 ^ 62) ≤ (((vN ns).length : Nat) : Int)
      omega
    · show (((vN ns).length : Nat) : Int) < 2 ^ 62
      rw [vN_len]
      omega
    refine lc_range (fun i H' => H' = upd H D (.lst (vN ((M07.round ns).take i)))) (by rw [List.take_zero]; rfl) (fun i H' hi hp => ?_) (fun H' hp => ?_)
    · subst hp
      rw [Int.toNat_natCast, vN_len] at hi
      have hr' : i < (M07.round ns).length := by rw [M07.round_length]; exact hi
      have ge : (M07.round ns)[i]? = some (M07.round ns)[i] := List.getElem?_eq_getElem hr'
      refine ⟨rfl, .ref a, rfl, _, rfl, a, ns, _, i, _, rfl, by omega, sameT (sameN hD) hS, un, ge, vN ((M07.round ns).take i), upd_same, ?_, ?_⟩
      · rw [vN_len]
        exact line5 (small_take (by rw [M07.round_length]; exact hl))
      · rw [upd_upd, List.take_add_one, ge]
        exact congrArg (fun z => upd H D (.lst z)) (vN_app _ _).symm
    · subst hp
      rw [Int.toNat_natCast, vN_len, List.take_of_length_le (by rw [M07.round_length]; exact Nat.le_refl _)]
      refine ⟨D, _, rfl, .inl ⟨.inl (.inl upd_same), fun l hl' => ?_⟩⟩
      exact q _ _ (sameW (sameN hD) ((sameN hD).free hl')) upd_same
end
end C82

set_option Elab.async false
set_option linter.all false
set_option maxRecDepth 100000
namespace C82
open PySem PySem.Spec PyProof.Rows L2 Loc RZ
/-! ### marks, peaks, cuts, blocks -/
def rd : Nat → List Nat → List Nat
  | 0, l => l
  | i + 1, l => M07.round (rd i l)
theorem rd_len : ∀ i l, (rd i l).length = l.length
  | 0, _ => rfl
  | i + 1, l => by rw [rd, M07.round_length, rd_len i l]
theorem rd_unl : ∀ i l, M07.Unl l → M07.Unl (rd i l)
  | 0, _, h => h
  | i + 1, l, h => M07.round_unl _ (rd_unl i l h)
def mrk (ns : List Nd) : List Nat := rd 4 (fms (ns.map cd))
theorem mrk_len (ns : List Nd) : (mrk ns).length = ns.length := by
  unfold mrk
  rw [rd_len, fms_length, List.length_map]
def tops (ns : List Nd) : List Nat := M10.pks (mrk ns)
/-- the piece of a row -/
def pce (ns : List Nd) (z : Nat × Nat) : List Nd := (ns.take z.2).drop z.1
def pieces (ns : List Nd) : List (Nat × Nat) := M10.pcs ns.length (tops ns)
theorem gap_row {ns : List Nd} (h : 2 ≤ ns.length) : M10.Gap ns.length 0 (tops ns) := by
  have := M10.pks_gap (ms := mrk ns) (by rw [mrk_len]; exact h)
  rw [mrk_len] at this
  exact this
theorem pieces_cont {ns : List Nd} (h : 2 ≤ ns.length) : M10.Cont 0 ns.length (pieces ns) := M10.sts_cont (gap_row h)
section
variable {P : Program} {w : World} {K : PySem.W.Frag} {mg : Str → Option Value} {base : Heap}
theorem scMarks : FnScope ["row", "some", "_"] ["row"] (defScope sMarks) := ⟨rfl, rfl, rfl, by decide +kernel, rfl, by decide +kernel, by decide +kernel⟩
theorem scPeaks : FnScope ["row", "some", "places", "place"] ["row"] (defScope sPeaks) := ⟨rfl, rfl, rfl, by decide +kernel, rfl, by decide +kernel, by decide +kernel⟩
theorem scCuts : FnScope ["row", "tops", "begins", "ends", "places", "begin", "end"] ["row"] (defScope sCuts) := ⟨rfl, rfl, rfl, by decide +kernel, rfl, by decide +kernel, by decide +kernel⟩
theorem scBlocks : FnScope ["row", "begins", "ends", "begin", "end"] ["row"] (defScope sBlocks) := ⟨rfl, rfl, rfl, by decide +kernel, rfl, by decide +kernel, by decide +kernel⟩
/-- a row of nodes -/
def RowV (K : PySem.W.Frag) (m : Nat) (H : Hp) (a : Addr) (ns : List Nd) : Prop := ∃ us l, SqT K H a us ∧ NdsV K H us ns ∧ OkAll ns l ∧ Unb ns ∧ wide l ≤ 1000000 ∧ (∀ n ∈ ns, ht n < m) ∧ 2 ≤ ns.length ∧ ns.length ≤ 100000
theorem RowV.same {m : Nat} {H H' : Hp} {a : Addr} {ns : List Nd} (h : RowV K m H a ns) (s : Same H H') : RowV K m H' a ns := by
  obtain ⟨us, l, h1, h2, h3⟩ := h
  exact ⟨us, l, sameT s h1, h2.up (.of s), h3⟩
theorem RowV.at {m : Nat} {H : Hp} {a : Addr} {ns : List Nd} (h : RowV K m H a ns) : ∃ us, SqT K H a us ∧ us.length = ns.length ∧ 2 ≤ ns.length ∧ ns.length ≤ 100000 := by
  obtain ⟨us, l, h1, h2, _, _, _, _, h3, h4⟩ := h
  exact ⟨us, h1, h2.len, h3, h4⟩
def spMarks (K : PySem.W.Frag) (m : Nat) : Sp := fun vs H Q _ => ∃ (a : Addr) (ns : List Nd), vs = [.ref a] ∧ RowV K m H a ns ∧ ∀ H' p, Same H H' → SqT K H' p (vN (mrk ns)) → Q (.ref p) H'
def spPeaks (K : PySem.W.Frag) (m : Nat) : Sp := fun vs H Q _ => ∃ (a : Addr) (ns : List Nd), vs = [.ref a] ∧ RowV K m H a ns ∧ ∀ H' p, Same H H' → SqT K H' p (vN (tops ns)) → Q (.ref p) H'
def spCuts (K : PySem.W.Frag) (m : Nat) : Sp := fun vs H Q _ => ∃ (a : Addr) (ns : List Nd), vs = [.ref a] ∧ RowV K m H a ns ∧ ∀ H' p, Same H H' → SqT K H' p (vN ((pieces ns).map (·.1))) → Q (.ref p) H'
def spBlocks (K : PySem.W.Frag) (m : Nat) : Sp := fun vs H Q _ => ∃ (a : Addr) (ns : List Nd), vs = [.ref a] ∧ RowV K m H a ns ∧
  ∀ H' p us, Same H H' → SqT K H' p us → NdsV K H' us ((pieces ns).map fun z => Nd.blk (pce ns z)) → Q (.ref p) H'
theorem ok_marks {f g h' : Addr} {fd gd hd : FuncData} {m : Nat} (F : Fun K "marks" "marks" sMarks f fd) (G : FnOk P w K mg base CX0 (m + 3) g gd ["row"] (spFirst K m)) (G' : Fun K "first_marks" "first_marks" sFirst g gd) (gG : mg "first_marks" = some (.ref g)) (bG : Binds K gd ["row"] [])
    (N : FnOk P w K mg base CX0 2 h' hd ["some"] (spNext K)) (N' : Fun K "next_marks" "next_marks" sNext h' hd) (gN : mg "next_marks" = some (.ref h')) (bN : Binds K hd ["some"] []) (mr : mg "range" = none) : FnOk P w K mg base CX0 (m + 4) f fd ["row"] (spMarks K m) := by
  refine F.ok scMarks (fun vs H Q E h => ?_) (fun cdv A outer s H vs Q E hr h => ?_)
  · obtain ⟨a, ns, rfl, _⟩ := h
    rfl
  · obtain ⟨a, ns, rfl, ⟨us, l, hT, hN, ok, un, hw, hh, h2, hl⟩, q⟩ := h
    have r2 := hr.mono (j := 2) (by omega)
    refine ⟨_, pss_cons (ps_set (i := 1) scMarks.nd rfl (.inl rfl) (pe_call G hr (by rfl) gG G'.kp bG .nil pass0 (pa_cons (pv 0) pa_nil)))
      (pss_cons (ps_for PassesOwn.never rfl (pi_range1 (by rfl) mr (pa_cons pe_int pa_nil)) (pg_name (i := 2) scMarks.nd rfl (.inl rfl))
        (pss_one (ps_set (i := 1) scMarks.nd rfl (.inl rfl) (pe_call N r2 (by rfl) gN N'.kp bN .nil pass0 (pa_cons (pv 1) pa_nil)))))
      (pss_one (ps_ret (pv 1)))), ?_⟩
    refine ⟨.ref a, rfl, a, us, ns, l, rfl, hT, hN, ok, hw, hh, hl, fun H1 p s1 hp => ?_⟩
    have u0 : M07.Unl (fms (ns.map cd)) := fms_unl _ (cds_sgs ns) (unlT_of ok un)
    refine ⟨4, rfl, by decide, by decide, ?_⟩
    refine for_range (fun i σ H' => ∃ p y2, σ = [some (.ref a), some (.ref p), y2] ∧ SqT K H' p (vN (rd i (fms (ns.map cd)))) ∧ Same H H') ⟨p, none, rfl, .inl (.inl hp), s1⟩ (fun i σ H2 hi hp => ?_) (fun σ H' hp => ?_)
    · obtain ⟨p, y2, rfl, hp, s2⟩ := hp
      refine ⟨.ref p, rfl, p, _, rfl, hp, rd_unl i _ u0, ?_, fun H3 p3 s3 h3 => ⟨p3, _, rfl, .inl (.inl h3), s2.trans s3⟩⟩
      rw [rd_len, fms_length, List.length_map]
      exact hl
    · obtain ⟨p, y2, rfl, hp, s2⟩ := hp
      exact ⟨_, rfl, q _ _ s2 hp⟩
theorem freeS {H H' : Hp} {a : Addr} (s : Same H H') (h : H' a = none) : H a = none := by
  cases z : H a with
  | none => rfl
  | some u =>
    rw [s _ _ z] at h
    cases h
theorem range'_more (s n : Nat) : List.range' s (n + 1) = List.range' s n ++ [s + n] := by
  rw [List.range'_concat]
  simp
theorem ok_peaks {f g : Addr} {fd gd : FuncData} {m : Nat} (F : Fun K "peaks" "peaks" sPeaks f fd) (G : FnOk P w K mg base CX0 (m + 4) g gd ["row"] (spMarks K m)) (G' : Fun K "marks" "marks" sMarks g gd) (gG : mg "marks" = some (.ref g)) (bG : Binds K gd ["row"] [])
    (mr : mg "range" = none) (ml : mg "len" = none) (mt : mg "tuple" = none) : FnOk P w K mg base CX0 (m + 5) f fd ["row"] (spPeaks K m) := by
  refine F.ok scPeaks (fun vs H Q E h => ?_) (fun cdv A outer s H vs Q E hr h => ?_)
  · obtain ⟨a, ns, rfl, _⟩ := h
    rfl
  · obtain ⟨a, ns, rfl, hR, q⟩ := h
    refine ⟨_, pss_cons (ps_set (i := 1) scPeaks.nd rfl (.inr rfl) (pe_call G hr (by rfl) gG G'.kp bG .nil pass0 (pa_cons (pv 0) pa_nil)))
      (pss_cons (ps_set (i := 2) scPeaks.nd rfl (.inl rfl) (pe_callTy cr_range2 (by rfl) mr (by decide +kernel) (pa_cons pe_int (pa_cons (pe_op op_sub (pe_callB call_len_seq (by rfl) ml PySem.boot_len (pa_cons (pv 0) pa_nil)) pe_int) pa_nil))))
      (pss_one (ps_ret (pe_callTy call_tuple_of (by rfl) mt PyProof.Rows.boot_tuple (pa_cons (pe_lc (own := [("place", 3)]) (g := gName 3)
        (tt := tTest (tChain (rI0 fun i j => .bl (decide (i < j))) (rI0 fun i j => .bl (decide (j < i))) (tOp (rIxT K) (tVar 1) (tOp (rI0 fun i j => .int (i - j)) (tVar 3) (tC (.int 1)))) (tOp (rIxT K) (tVar 1) (tVar 3)) (tOp (rIxT K) (tVar 1) (tOp (rI0 fun i j => .int (i + j)) (tVar 3) (tC (.int 1))))))
        rfl scPeaks.nd (pi_rngV (pv 2)) (blkOk_by (N := ["row", "some", "places", "place"]) (sc := defScope sPeaks) (by decide +kernel))
        (fun _ _ _ _ _ => pg_name (i := 3) scPeaks.nd rfl (Or.inl rfl))
        (fun _ _ _ _ _ => pts_one (pt_chain op_lt op_gt (pe_ix ix_tup (pv 1) (pe_op op_sub (pv 3) pe_int) (fun _ _ => rfl)) (pe_ix ix_tup (pv 1) (pv 3) (fun _ _ => rfl)) (pe_ix ix_tup (pv 1) (pe_op op_add (pv 3) pe_int) (fun _ _ => rfl))))
        (fun _ _ _ _ _ => pv 3)) pa_nil))))), ?_⟩
    refine ⟨.ref a, rfl, a, ns, rfl, hR, fun H1 p s1 hp => ?_⟩
    obtain ⟨us, hT, hlu, h2, hl⟩ := (hR.same s1).at
    refine ⟨.ref a, rfl, a, us, rfl, .inr hT, _, _, rfl, rfl, 2, _, rfl, fun r nr => ?_⟩
    have lm := mrk_len ns
    have sR := sameN (o := .rng 2 (((us.length : Nat) : Int) - 1)) nr
    refine ⟨.ref r, rfl, r, 2, _, rfl, upd_same, ⟨by decide, by decide, by omega, by omega⟩, fun D nD => ?_⟩
    have n0 : ((((us.length : Nat) : Int) - 1) - 2).toNat = ns.length - 3 := by omega
    refine lc_range (fun i H' => H' D = some (.lst (vN ((List.range' 2 i).filter (M10.pk (mrk ns))))) ∧ Same H1 H') ⟨upd_same, sR.trans (sameN nD)⟩ (fun i H' hi hp' => ?_) (fun H' hp' => ?_)
    · obtain ⟨gD, sD⟩ := hp'
      rw [n0] at hi
      have pM := sameT sD hp
      obtain ⟨x, hx⟩ := get_of (l := mrk ns) (i := i + 1) (by omega)
      obtain ⟨y, hy⟩ := get_of (l := mrk ns) (i := i + 2) (by omega)
      obtain ⟨z, hz⟩ := get_of (l := mrk ns) (i := i + 3) (by omega)
      have ek : M10.pk (mrk ns) (2 + i) = (decide (x < y) && decide (z < y)) := by
        unfold M10.pk
        rw [show 2 + i - 1 = i + 1 by omega, show 2 + i = i + 2 by omega, hx, hy, show i + 2 + 1 = i + 3 by omega, hz]
      refine ⟨rfl, ?_⟩
      refine ⟨.ref p, rfl, _, rfl, _, 1, rfl, rfl, p, _, ((i + 1 : Nat) : Int), .int x, rfl, int_congr (by omega), pM, atI_nat (vN_get hx), .ref p, rfl, _, rfl, p, _, ((i + 2 : Nat) : Int), .int y, rfl, int_congr (by omega), pM, atI_nat (vN_get hy), x, y, rfl, rfl, _, rfl, ?_⟩
      have keep : (decide (x < y) && decide (z < y)) = false → H' D = some (.lst (vN ((List.range' 2 (i + 1)).filter (M10.pk (mrk ns))))) ∧ Same H1 H' := fun e => by
        rw [range'_more, List.filter_append, List.filter_cons_of_neg (by rw [ek, e]; simp), List.filter_nil, List.append_nil]
        exact ⟨gD, sD⟩
      refine ite2 (fun e => ?_) (fun e => ?_)
      · have e1 : x < y := by
          have := of_decide_eq_true e
          omega
        refine ⟨.ref p, rfl, _, rfl, _, 1, rfl, rfl, p, _, ((i + 3 : Nat) : Int), .int z, rfl, int_congr (by omega), pM, atI_nat (vN_get hz), y, z, rfl, rfl, _, rfl, ite2 (fun e2 => ?_) (fun e2 => ?_)⟩
        · have e3 : z < y := by
            have := of_decide_eq_true e2
            omega
          refine ⟨_, rfl, _, gD, ?_, ?_, sameW sD (freeS sR nD)⟩
          · rw [vN_len]
            refine line5 (Nat.le_trans (List.length_filter_le _ _) ?_)
            rw [List.length_range']
            omega
          · rw [upd_same, range'_more, List.filter_append, List.filter_cons_of_pos (by rw [ek, decide_eq_true e1, decide_eq_true e3]; rfl), List.filter_nil, vN_app]
            exact congrArg (fun z => some (HO.lst (_ ++ [z]))) (int_congr (by omega))
        · refine keep ?_
          have e3 : ¬ z < y := fun c => e2 (decide_eq_true (by omega))
          rw [decide_eq_false e3, Bool.and_false]
      · refine ⟨_, rfl, iteF (keep ?_)⟩
        have e3 : ¬ x < y := fun c => e (decide_eq_true (by omega))
        rw [decide_eq_false e3, Bool.false_and]
    · obtain ⟨gD, sD⟩ := hp'
      rw [n0] at gD
      refine ⟨D, _, rfl, .inl ⟨.inl (.inl gD), fun t nt => q _ t (s1.trans (sD.trans (sameN nt))) (.inl (.inl ?_))⟩⟩
      rw [upd_same]
      unfold tops M10.pks
      rw [lm]
theorem ndsV_drop {H : Hp} : ∀ {ps : List Nd} {vs : List V} (k : Nat), NdsV K H vs ps → NdsV K H (vs.drop k) (ps.drop k)
  | _, _, 0, h => h
  | [], vs, k + 1, h => by
    have := h.inv0
    subst this
    exact h
  | p :: ps, vs, k + 1, h => by
    obtain ⟨v, r, rfl, _, h2⟩ := h.inv
    exact ndsV_drop k h2
theorem slice_any {H : Hp} {a : Addr} {xs : List V} {b e : Nat} {Q : VK} (h : SqT K H a xs) (h1 : b ≤ e) (h2 : e ≤ xs.length) (q : ∀ H' t, Same H H' → SqT K H' t ((xs.take e).drop b) → Q (.ref t) H') : rSlA K (.ref a) (some (b : Int)) (some (e : Int)) H Q := by
  refine ⟨a, xs, rfl, h, fun hw => ?_, fun hw p hp => q _ p (sameN hp) (.inl (.inl ?_))⟩
  · rw [HT.sIx_nat, HT.sIx_nat] at hw
    have e1 : b = 0 := by omega
    have e2 : e = xs.length := by omega
    subst e1 e2
    refine q H a (Same.refl H) ?_
    rw [List.take_length]
    exact h
  · rw [upd_same]
    unfold cutV
    rw [HT.sIx_nat, HT.sIx_nat, Nat.min_eq_left h2, Nat.min_eq_left (Nat.le_trans h1 h2), List.drop_take]
theorem cat_any {H : Hp} {a b : Addr} {xs ys : List V} {Q : VK} (h : SqT K H a xs) (k : SqT K H b ys) (len : xs.length + ys.length ≤ sizeLine) (q : ∀ H' t, Same H H' → SqT K H' t (xs ++ ys) → Q (.ref t) H') : rCatA K (.ref a) (.ref b) H Q := by
  refine ⟨a, b, xs, ys, rfl, rfl, h, k, len, fun e => q H b (Same.refl H) (by rw [e]; exact k), fun _ e => q H a (Same.refl H) (by rw [e, List.append_nil]; exact h), fun _ _ p hp => q _ p (sameN hp) (.inl (.inl upd_same))⟩
theorem pieces_fst_len {ns : List Nd} (h : 2 ≤ ns.length) : (pieces ns).length ≤ ns.length := by
  have := (pieces_cont h).len
  omega
theorem ok_cuts {f g : Addr} {fd gd : FuncData} {m : Nat} (F : Fun K "cuts" "cuts" sCuts f fd) (G : FnOk P w K mg base CX0 (m + 5) g gd ["row"] (spPeaks K m)) (G' : Fun K "peaks" "peaks" sPeaks g gd) (gG : mg "peaks" = some (.ref g)) (bG : Binds K gd ["row"] [])
    (mr : mg "range" = none) (ml : mg "len" = none) (mt : mg "tuple" = none) (mz : mg "zip" = none) (mlist : mg "list" = none) : FnOk P w K mg base CX0 (m + 6) f fd ["row"] (spCuts K m) := by
  refine F.ok scCuts (fun vs H Q E h => ?_) (fun cdv A outer s H vs Q E hr h => ?_)
  · obtain ⟨a, ns, rfl, _⟩ := h
    rfl
  · obtain ⟨a, ns, rfl, hR, q⟩ := h
    refine ⟨_, pss_cons (ps_set (i := 1) scCuts.nd rfl (.inl rfl) (pe_call G hr (by rfl) gG G'.kp bG .nil pass0 (pa_cons (pv 0) pa_nil)))
      (pss_cons (ps_set (i := 2) scCuts.nd rfl (.inl rfl) (pe_op op_catA (pe_tup (pa_cons pe_int pa_nil)) (pv 1)))
      (pss_cons (ps_set (i := 3) scCuts.nd rfl (.inl rfl) (pe_op op_catA (pv 1) (pe_tup (pa_cons (pe_callB call_len_seq (by rfl) ml PySem.boot_len (pa_cons (pv 0) pa_nil)) pa_nil))))
      (pss_cons (ps_set (i := 4) scCuts.nd rfl (.inl rfl) (pe_lst pa_nil))
      (pss_cons (ps_for PassesOwn.never rfl (pi_zipA (by rfl) mz (pa_cons (pv 2) (pa_cons (pv 3) pa_nil))) (pg_tup rfl (pgs_cons (pg_name (i := 5) scCuts.nd rfl (.inl rfl)) (pgs_cons (pg_name (i := 6) scCuts.nd rfl (.inl rfl)) pgs_nil)))
        (pss_one (ps_expr (pe_bm PySem.F.plainAttrs_list PySem.F.slot_list_extend PySem.F.type_list_extend mt_extend (pv 4)
          (pa_cons (pe_listRg3 (by rfl) (by rfl) mlist (by rfl) mr (pa_cons (pv 5) (pa_cons (pe_op op_sub (pv 6) pe_int) (pa_cons pe_int pa_nil)))) pa_nil)))))
      (pss_one (ps_ret (pe_callTy call_tuple_of (by rfl) mt PyProof.Rows.boot_tuple (pa_cons (pv 4) pa_nil)))))))), ?_⟩
    refine ⟨.ref a, rfl, a, ns, rfl, hR, fun H1 p s1 hp => ?_⟩
    obtain ⟨us, hT, hlu, h2, hl⟩ := (hR.same s1).at
    have gap := gap_row h2
    have con := pieces_cont h2
    have lp := pieces_fst_len h2
    unfold pieces M10.pcs at con lp
    have tl : (tops ns).length ≤ ns.length := by
      unfold tops M10.pks
      refine Nat.le_trans (List.length_filter_le _ _) ?_
      rw [List.length_range', mrk_len]
      omega
    refine ⟨(show 1 ≤ sizeLine from by decide), fun t0 n0 => ⟨.ref p, rfl, cat_any (.inl (.inl upd_same)) (sameT (sameN n0) hp) (Nat.le_trans (show 1 + (vN (tops ns)).length ≤ 100001 by rw [vN_len]; omega) (by decide)) fun H2 b s2 hb => ?_⟩⟩
    have s12 := (sameN (o := .tup [.int 0]) n0).trans s2
    refine ⟨.ref p, rfl, .ref a, rfl, a, us, rfl, .inr (sameT s12 hT), (show 1 ≤ sizeLine from by decide), fun t3 n3 => cat_any (sameT (s12.trans (sameN n3)) hp) (.inl (.inl upd_same)) (Nat.le_trans (show (vN (tops ns)).length + 1 ≤ 100001 by rw [vN_len]; omega) (by decide)) fun H3 e s3 he => ?_⟩
    have s23 := (sameN (o := .tup [.int ((us.length : Nat) : Int)]) n3).trans s3
    have hb3 : SqT K H3 b (vN (0 :: tops ns)) := sameT s23 hb
    have he3 : SqT K H3 e (vN (tops ns ++ [ns.length])) := by
      rw [vN_app, ← hlu]
      exact he
    have s13 := s12.trans s23
    rw [← M10.sts_fst ns.length 0 (tops ns)] at hb3
    rw [← M10.sts_snd ns.length 0 (tops ns)] at he3
    refine ⟨(show 0 ≤ sizeLine from by decide), fun L nL => ?_⟩
    have sL := sameN (o := .lst []) nL
    refine ⟨.ref b, rfl, .ref e, rfl, b, e, _, _, rfl, .inr ⟨sameT sL hb3, sameT sL he3, ?_⟩⟩
    generalize hst : M10.sts ns.length 0 (tops ns) = st at hb3 he3 con lp
    refine for_zipT (xs := vN (st.map (·.1))) (ys := vN (st.map (·.2))) (by simp) (fun i σ H' => ∃ y5 y6, σ = [some (.ref a), some (.ref p), some (.ref b), some (.ref e), some (.ref L), y5, y6] ∧ H' L = some (.lst (vN (((st.take i).flatMap M10.stz).map (·.1)))) ∧ Same H3 H')
      ⟨none, none, rfl, upd_same, sL⟩ (fun i σ H' hp' => ?_) (fun i x y T σ H' hx hy hp' nT => ?_) (fun σ H' hp' => ?_)
    · obtain ⟨_, _, _, _, s4⟩ := hp'
      exact ⟨sameT s4 hb3, sameT s4 he3⟩
    · obtain ⟨y5, y6, rfl, gL, s4⟩ := hp'
      obtain ⟨z, hz, rfl⟩ : ∃ z, st[i]? = some z ∧ x = .int (z.1 : Nat) := by
        rw [List.getElem?_map, List.getElem?_map, Option.map_map] at hx
        obtain ⟨z, hz, rfl⟩ := Option.map_eq_some_iff.mp hx
        exact ⟨z, hz, rfl⟩
      have ey : y = .int (z.2 : Nat) := by
        rw [List.getElem?_map, List.getElem?_map, hz] at hy
        exact (Option.some.inj hy).symm
      subst ey
      have hzb := M10.sts_gap gap z (by rw [hst]; exact List.mem_of_getElem? hz)
      obtain ⟨d, hd⟩ : ∃ d, z.2 = z.1 + d := ⟨z.2 - z.1, by omega⟩
      have d2 : 2 ≤ d := by omega
      have gT := sameN (o := .tup [V.int (z.1 : Nat), .int (z.2 : Nat)]) nT
      refine ⟨T, [.int (z.1 : Nat), .int (z.2 : Nat)], rfl, .inl (.inl upd_same), rfl, _, [.int (z.2 : Nat)], rfl, _, [], rfl, rfl, ?_⟩
      refine ⟨.ref L, rfl, .inl ⟨rfl, _, .inl (.inl (gT _ _ gL))⟩, _, rfl, _, rfl, _, 1, rfl, rfl, (z.1 : Nat), _, 2, d / 2, rfl, by rw [hd]; exact rgC_two d2 (by omega), by omega, fun l5 n5 => ?_⟩
      have tk : st.take (i + 1) = st.take i ++ [z] := take_more hz
      have ev : ((List.range (d / 2)).map fun k => V.int (((z.1 : Nat) : Int) + (k : Nat) * 2)) = vN ((M10.stz z).map (·.1)) := by
        unfold M10.stz
        rw [hd, Nat.add_sub_cancel_left, M10.str_fst d z.1 d2]
        show _ = List.map (fun n : Nat => V.int (n : Int)) (List.map (fun k => z.1 + k * 2) (List.range (d / 2)))
        rw [List.map_map]
        refine List.map_congr_left fun k _ => int_congr ?_
        show (z.1 : Int) + (k : Nat) * 2 = ((z.1 + k * 2 : Nat) : Int)
        omega
      have lall : (((st.take i).flatMap M10.stz).map (·.1)).length + ((M10.stz z).map (·.1)).length ≤ ns.length := by
        have e1 : (st.take (i + 1)).flatMap M10.stz ++ (st.drop (i + 1)).flatMap M10.stz = st.flatMap M10.stz := by rw [← List.flatMap_append, List.take_append_drop]
        have e2 := congrArg List.length e1
        rw [List.length_append, tk, List.flatMap_append, List.length_append] at e2
        have e3 : ([z].flatMap M10.stz) = M10.stz z := by simp
        rw [e3] at e2
        rw [List.length_map, List.length_map]
        omega
      refine ⟨L, l5, _, _, rfl, rfl, sameN n5 _ _ (gT _ _ gL), upd_same, ?_, _, _, rfl, ?_, sameW ((s4.trans gT).trans (sameN n5)) nL⟩
      · rw [ev, vN_len, vN_len]
        exact Nat.le_trans lall (Nat.le_of_lt (line5 hl))
      · rw [upd_same, ev, tk, List.flatMap_append, List.map_append]
        unfold vN
        rw [List.map_append]
        simp
    · obtain ⟨y5, y6, rfl, gL, s4⟩ := hp'
      have full : st.take (vN (st.map (·.1))).length = st := List.take_of_length_le (by simp)
      rw [full] at gL
      refine ⟨.ref L, rfl, L, _, rfl, .inl ⟨.inl (.inl gL), fun t nt => q _ t (((s1.trans s13).trans s4).trans (sameN nt)) (.inl (.inl ?_))⟩⟩
      rw [upd_same]
      unfold pieces M10.pcs
      rw [hst]
theorem ok_blocks {f g : Addr} {fd gd : FuncData} {m : Nat} (F : Fun K "blocks" "blocks" sBlocks f fd) (G : FnOk P w K mg base CX0 (m + 6) g gd ["row"] (spCuts K m)) (G' : Fun K "cuts" "cuts" sCuts g gd) (gG : mg "cuts" = some (.ref g)) (bG : Binds K gd ["row"] [])
    (ml : mg "len" = none) (mt : mg "tuple" = none) (mz : mg "zip" = none) : FnOk P w K mg base CX0 (m + 7) f fd ["row"] (spBlocks K m) := by
  refine F.ok scBlocks (fun vs H Q E h => ?_) (fun cdv A outer s H vs Q E hr h => ?_)
  · obtain ⟨a, ns, rfl, _⟩ := h
    rfl
  · obtain ⟨a, ns, rfl, hR, q⟩ := h
    refine ⟨_, pss_cons (ps_set (i := 1) scBlocks.nd rfl (.inl rfl) (pe_call G hr (by rfl) gG G'.kp bG .nil pass0 (pa_cons (pv 0) pa_nil)))
      (pss_cons (ps_set (i := 2) scBlocks.nd rfl (.inl rfl) (pe_op op_catA (pe_slice sl_tupA (pv 1) (po_some pe_int) po_none) (pe_tup (pa_cons (pe_callB call_len_seq (by rfl) ml PySem.boot_len (pa_cons (pv 0) pa_nil)) pa_nil))))
      (pss_one (ps_ret (pe_callTy call_tuple_of (by rfl) mt PyProof.Rows.boot_tuple (pa_cons (pe_lc (own := [("begin", 3), ("end", 4)]) (g := gTup K 2 (gCons (gName 3) (gCons (gName 4) gNil))) (tt := tYes)
        (te := tTup (tCons (tC (.str "block")) (tCons (tSl (rSlA K) (tVar 0) (tPart (tVar 3)) (tPart (tVar 4))) tNil)))
        rfl scBlocks.nd (pi_zipA (by rfl) mz (pa_cons (pv 1) (pa_cons (pv 2) pa_nil))) (blkOk_by (N := ["row", "begins", "ends", "begin", "end"]) (sc := defScope sBlocks) (by decide +kernel))
        (fun _ _ _ _ _ => pg_tup rfl (pgs_cons (pg_name (i := 3) scBlocks.nd rfl (Or.inl rfl) (hf := Or.inr rfl)) (pgs_cons (pg_name (i := 4) scBlocks.nd rfl (Or.inl rfl) (hf := Or.inr rfl)) pgs_nil))) (fun _ _ _ _ _ => pts_nil)
        (fun _ _ _ _ _ => pe_tup (pa_cons pe_str (pa_cons (pe_slice sl_tupA (pv 0) (po_some (pv 3)) (po_some (pv 4))) pa_nil)))) pa_nil))))), ?_⟩
    refine ⟨.ref a, rfl, a, ns, rfl, hR, fun H1 b s1 hb => ?_⟩
    obtain ⟨us, l0, hT, hN, _, _, _, _, h2, hl⟩ := hR.same s1
    have hlu := hN.len
    have con := pieces_cont h2
    have lp := pieces_fst_len h2
    have bnd := con.bnd.2
    generalize pieces ns = pz at hb con lp bnd q ⊢
    obtain ⟨z0, r0, rfl⟩ : ∃ z r, pz = z :: r := by
      cases pz with
      | nil =>
        have : 0 = ns.length := con
        omega
      | cons z r => exact ⟨z, r, rfl⟩
    have ee := con.ends
    refine ⟨.ref b, rfl, 1, rfl, b, _, rfl, hb, fun hw => ?_, fun hw t nt => ?_⟩
    · exfalso
      have := hw.1
      rw [show (1 : Int) = ((1 : Nat) : Int) from rfl, HT.sIx_nat, vN_len, List.length_map, List.length_cons] at this
      omega
    have st := sameN (o := .tup (cutV (vN ((z0 :: r0).map (·.1))) (some 1) none)) nt
    have ht : SqT K (upd H1 t (.tup (cutV (vN ((z0 :: r0).map (·.1))) (some 1) none))) t (vN (r0.map (·.1))) := by
      refine .inl (.inl ?_)
      rw [upd_same]
      refine congrArg (fun z => some (HO.tup z)) ?_
      unfold cutV
      rw [show (1 : Int) = ((1 : Nat) : Int) from rfl, HT.sIx_nat, HT.sIx_none, vN_len, List.length_map, List.length_cons, Nat.min_eq_left (by omega)]
      refine List.take_of_length_le ?_
      simp
    generalize upd H1 t (.tup (cutV (vN ((z0 :: r0).map (·.1))) (some 1) none)) = H2 at st ht ⊢
    refine ⟨.ref a, rfl, a, us, rfl, .inr (sameT st hT), (show 1 ≤ sizeLine from by decide), fun t3 n3 => cat_any (sameT (sameN n3) ht) (.inl (.inl upd_same)) (Nat.le_trans (show (vN (r0.map (·.1))).length + 1 ≤ 100001 by rw [vN_len, List.length_map]; rw [List.length_cons] at lp; omega) (by decide)) fun H3 e s3 he => ?_⟩
    have s13 := (st.trans (sameN (o := .tup [.int ((us.length : Nat) : Int)]) n3)).trans s3
    have he : SqT K H3 e (vN ((z0 :: r0).map (·.2))) := by
      rw [← ee, vN_app, ← hlu]
      exact he
    have hb := sameT s13 hb
    have hT := sameT s13 hT
    have hN := hN.up (.of (K := K) s13)
    generalize z0 :: r0 = pz at he hb lp bnd q ⊢
    refine ⟨.ref b, rfl, .ref e, rfl, b, e, _, _, rfl, .inr ⟨hb, he, fun D nD => ?_⟩⟩
    refine lc_zipT (xs := vN (pz.map (·.1))) (ys := vN (pz.map (·.2))) (fun i H' => i ≤ pz.length ∧ ∃ ws, H' D = some (.lst ws) ∧ NdsV K H' ws ((pz.take i).map fun z => Nd.blk (pce ns z)) ∧ Same H3 H') ⟨Nat.zero_le _, [], upd_same, .nil, sameN nD⟩ (fun i H' hp' => ?_) (fun i x y T H' hx hy hp' nT => ?_) (fun i H' hp' hi => ?_)
    · obtain ⟨_, _, _, _, s4⟩ := hp'
      exact ⟨sameT s4 hb, sameT s4 he⟩
    · obtain ⟨hi, ws, gD, dD, s4⟩ := hp'
      obtain ⟨z, hz, rfl⟩ : ∃ z, pz[i]? = some z ∧ x = .int (z.1 : Nat) := by
        rw [List.getElem?_map, List.getElem?_map, Option.map_map] at hx
        obtain ⟨z, hz, rfl⟩ := Option.map_eq_some_iff.mp hx
        exact ⟨z, hz, rfl⟩
      have ey : y = .int (z.2 : Nat) := by
        rw [List.getElem?_map, List.getElem?_map, hz] at hy
        exact (Option.some.inj hy).symm
      subst ey
      have hzb := bnd z (List.mem_of_getElem? hz)
      have tk : pz.take (i + 1) = pz.take i ++ [z] := take_more hz
      have sT := sameN (o := .tup [V.int (z.1 : Nat), .int (z.2 : Nat)]) nT
      have hil := (List.getElem?_eq_some_iff.mp hz).1
      refine ⟨T, [.int (z.1 : Nat), .int (z.2 : Nat)], rfl, .inl (.inl upd_same), rfl, _, [.int (z.2 : Nat)], rfl, _, [], rfl, rfl, rfl, ?_⟩
      refine ⟨.ref a, rfl, _, rfl, _, rfl, _, rfl, _, rfl, slice_any (sameT (s4.trans sT) hT) (by omega) (by omega) fun H5 t5 s5 h5 => ⟨(show 2 ≤ sizeLine from by decide), fun t6 n6 => ?_⟩⟩
      have s6 := sameN (o := .tup [.str "block", .ref t5]) n6
      have s56 := sT.trans (s5.trans s6)
      have nb : NdV K (upd H5 t6 (.tup [.str "block", .ref t5])) (.ref t6) (.blk (pce ns z)) := .ofBlk (.inl (.inl upd_same)) (sameT s6 h5) (ndsV_drop z.1 ((hN.up (.of (K := K) (s4.trans s56))).take z.2))
      have gD6 := s56 _ _ gD
      have dD6 := dD.up (.of (K := K) s56)
      refine ⟨ws, gD6, ?_, hil, ws ++ [.ref t6], upd_same, ?_, sameW (s4.trans s56) nD⟩
      · rw [dD.len, List.length_map]
        exact line5 (small_take (by omega))
      · rw [tk, List.map_append]
        have t9 : Tups K (upd H5 t6 (.tup [.str "block", .ref t5])) (upd (upd H5 t6 (.tup [.str "block", .ref t5])) D (.lst (ws ++ [.ref t6]))) := (But.set (p := D)).tups gD6
        exact (dD6.up t9).app (.one (nb.up t9))
    · obtain ⟨hil, ws, gD, dD, s4⟩ := hp'
      have full : pz.take i = pz := List.take_of_length_le (by
        rw [vN_len, vN_len, List.length_map, List.length_map] at hi
        omega)
      rw [full] at dD
      exact ⟨D, ws, rfl, .inl ⟨.inl (.inl gD), fun t nt => q _ t ws (((s1.trans s13).trans s4).trans (sameN nt)) (.inl (.inl upd_same)) (dD.up (.of (sameN nt)))⟩⟩
end
/-! ### marks of rows with an equal beginning, or an equal end -/
def fstp : List (List Nat) → List Nat
  | [] => []
  | c :: t => fmt c t
theorem fmt_app (a : List Nat) : ∀ (x s : List (List Nat)) (c : List Nat), ∃ y, fmt a (x ++ c :: s) = y ++ fmt c s ∧ y.length = x.length + 1
  | [], s, c => ⟨[fmk a c], by rw [List.nil_append, fmt]; rfl, rfl⟩
  | b :: x, s, c => by
    obtain ⟨y, e, l⟩ := fmt_app b x s c
    exact ⟨fmk a b :: y, by rw [List.cons_append, fmt, e]; rfl, by rw [List.length_cons, l, List.length_cons]⟩
theorem fstp_len (s : List (List Nat)) : (fstp s).length = s.length - 1 := by
  cases s with
  | nil => rfl
  | cons c t => rw [fstp, fmt_length, List.length_cons, Nat.add_sub_cancel]
theorem fms_end (x s : List (List Nat)) : ∃ y, fms (x ++ s) = y ++ fstp s ∧ y.length = x.length + min 1 s.length := by
  cases s with
  | nil => exact ⟨fms x, by rw [List.append_nil, fstp, List.append_nil], by rw [fms_length]; rfl⟩
  | cons c t =>
    cases x with
    | nil => exact ⟨[codeAt c 0], rfl, by simp⟩
    | cons a x =>
      obtain ⟨y, e, l⟩ := fmt_app a x t c
      exact ⟨codeAt a 0 :: y, by rw [List.cons_append, fms, e]; rfl, by rw [List.length_cons, l, List.length_cons, List.length_cons]; omega⟩
theorem fmt_beg (a : List Nat) : ∀ (x s : List (List Nat)), ∃ z, fmt a (x ++ s) = fmt a x ++ z
  | [], s => ⟨fmt a s, rfl⟩
  | b :: x, s => by
    obtain ⟨z, e⟩ := fmt_beg b x s
    exact ⟨z, by rw [List.cons_append, fmt, e, fmt]; rfl⟩
theorem fms_beg (x s : List (List Nat)) : ∃ z, fms (x ++ s) = fms x ++ z := by
  cases x with
  | nil => exact ⟨fms s, rfl⟩
  | cons a x =>
    obtain ⟨z, e⟩ := fmt_beg a x s
    exact ⟨z, by rw [List.cons_append, fms, e, fms]; rfl⟩
theorem rd_beg : ∀ (i : Nat) (x s : List Nat), ∃ z, rd i (x ++ s) = rd i x ++ z
  | 0, x, s => ⟨s, rfl⟩
  | i + 1, x, s => by
    obtain ⟨z, e⟩ := rd_beg i x s
    obtain ⟨z', e'⟩ := M82.round_beg (rd i x) z
    exact ⟨z', by rw [rd, e, e', rd]⟩
theorem mrk_beg (x s : List Nd) : ∃ z, mrk (x ++ s) = mrk x ++ z := by
  obtain ⟨z, e⟩ := fms_beg (x.map cd) (s.map cd)
  obtain ⟨z', e'⟩ := rd_beg 4 (fms (x.map cd)) z
  exact ⟨z', by unfold mrk; rw [List.map_append, e, e']⟩
theorem rd_end : ∀ (i : Nat) (x s : List Nat), ∃ y w, rd i (x ++ s) = y ++ w ∧ y.length = x.length + min i s.length ∧ w.length = s.length - i ∧ ∀ x' : List Nat, ∃ y', rd i (x' ++ s) = y' ++ w ∧ y'.length = x'.length + min i s.length
  | 0, x, s => ⟨x, s, rfl, by omega, by omega, fun x' => ⟨x', rfl, by omega⟩⟩
  | i + 1, x, s => by
    obtain ⟨y, w, e, l, lw, k⟩ := rd_end i x s
    obtain ⟨y2, e2, l2⟩ := M82.round_end y w
    refine ⟨y2, M82.stp w, by rw [rd, e, e2], by omega, by rw [M82.stp_len, lw]; omega, fun x' => ?_⟩
    obtain ⟨y', e', l'⟩ := k x'
    obtain ⟨y3, e3, l3⟩ := M82.round_end y' w
    exact ⟨y3, by rw [rd, e', e3], by omega⟩
/-- from the sixth place of an equal end on, marks are equal -/
theorem mrk_end (x x' s : List Nd) (j : Nat) (hj : 5 ≤ j) : (mrk (x ++ s))[j + x.length]? = (mrk (x' ++ s))[j + x'.length]? := by
  obtain ⟨y, e, l⟩ := fms_end (x.map cd) (s.map cd)
  obtain ⟨y', e', l'⟩ := fms_end (x'.map cd) (s.map cd)
  obtain ⟨y2, w, e2, l2, lw, k⟩ := rd_end 4 y (fstp (s.map cd))
  obtain ⟨y3, e3, l3⟩ := k y'
  rw [fstp_len] at l2 l3 lw
  rw [List.length_map, List.length_map] at l l'
  rw [List.length_map] at l2 l3 lw
  unfold mrk
  rw [List.map_append, List.map_append, e, e', e2, e3]
  have b1 : y2.length ≤ j + x.length := by omega
  have b2 : y3.length ≤ j + x'.length := by omega
  rw [List.getElem?_append_right b1, List.getElem?_append_right b2]
  congr 1
  omega
/-! ### how many blocks lie between the blocks that agree -/
theorem fpos {p : Nat → Bool} {a : Nat} {l : List Nat} (h : p a = true) : (a :: l).filter p = a :: l.filter p := List.filter_cons_of_pos h
theorem fneg {p : Nat → Bool} {a : Nat} {l : List Nat} (h : p a = false) : (a :: l).filter p = l.filter p := List.filter_cons_of_neg (by rw [h]; decide)
theorem cont_split : ∀ {X Y : List (Nat × Nat)} {b n : Nat}, M10.Cont b n (X ++ Y) → ∃ t, M10.Cont b t X ∧ M10.Cont t n Y
  | [], Y, b, n, h => ⟨b, rfl, h⟩
  | z :: X, Y, b, n, h => by
    obtain ⟨t, h1, h2⟩ := cont_split (X := X) h.2.2.2
    exact ⟨t, ⟨h.1, h.2.1, h.2.2.1, h1⟩, h2⟩
theorem cont_end : ∀ {X : List (Nat × Nat)} {b n m : Nat}, M10.Cont b n X → M10.Cont b m X → n = m
  | [], b, n, m, h, k => by
    have h' : b = n := h
    have k' : b = m := k
    omega
  | z :: X, b, n, m, h, k => cont_end (X := X) h.2.2.2 k.2.2.2
theorem cont_near {L n n' : Nat} (hn : L ≤ n) (hn' : L ≤ n') : ∀ (ps ps' : List (Nat × Nat)) (b : Nat), M10.Cont b n ps → M10.Cont b n' ps' →
    (ps.map (·.1)).filter (fun s => decide (s + 3 ≤ L)) = (ps'.map (·.1)).filter (fun s => decide (s + 3 ≤ L)) →
    ∃ A U U' e, ps = A ++ U ∧ ps' = A ++ U' ∧ M10.Cont b e A ∧ M10.Cont e n U ∧ M10.Cont e n' U' ∧ L ≤ e + 5 ∧ (∀ z ∈ A, z.2 + 3 ≤ L)
  | [], ps', b, h, h', _ => ⟨[], [], ps', b, rfl, rfl, rfl, h, h', by have : b = n := h; omega, fun z hz => nomatch hz⟩
  | z :: r, ps', b, h, h', e => by
    by_cases c : z.2 + 3 ≤ L
    · have zb := h.1
      have z2 := h.2.1
      cases r with
      | nil =>
        have : z.2 = n := h.2.2.2
        omega
      | cons y r =>
        have yb : y.1 = z.2 := h.2.2.2.1
        cases ps' with
        | nil =>
          have : b = n' := h'
          omega
        | cons z' r' =>
          have zb' := h'.1
          simp only [List.map_cons] at e
          rw [fpos (p := fun s => decide (s + 3 ≤ L)) (decide_eq_true (show z.1 + 3 ≤ L by omega)), fpos (p := fun s => decide (s + 3 ≤ L)) (a := z'.1) (decide_eq_true (show z'.1 + 3 ≤ L by omega))] at e
          have e1 := (List.cons.inj e).2
          have hr' := h'.2.2.2
          have key : ∃ y' r2, r' = y' :: r2 ∧ y'.1 = z.2 := by
            cases r' with
            | nil =>
              rw [fpos (p := fun s => decide (s + 3 ≤ L)) (decide_eq_true (show y.1 + 3 ≤ L by omega))] at e1
              cases e1
            | cons y' r2 =>
              refine ⟨y', r2, rfl, ?_⟩
              by_cases c2 : y'.1 + 3 ≤ L
              · simp only [List.map_cons] at e1
                rw [fpos (p := fun s => decide (s + 3 ≤ L)) (decide_eq_true (show y.1 + 3 ≤ L by omega)), fpos (p := fun s => decide (s + 3 ≤ L)) (a := y'.1) (decide_eq_true c2)] at e1
                have := (List.cons.inj e1).1
                omega
              · rw [fpos (p := fun s => decide (s + 3 ≤ L)) (decide_eq_true (show y.1 + 3 ≤ L by omega))] at e1
                have hx : y.1 ∈ ((y' :: r2).map (·.1)).filter (fun s => decide (s + 3 ≤ L)) := by
                  rw [← e1]
                  exact List.mem_cons_self
                obtain ⟨hm, hd⟩ := List.mem_filter.mp hx
                have hd' := of_decide_eq_true hd
                obtain ⟨x, hx1, hx2⟩ := List.mem_map.mp hm
                rcases List.mem_cons.mp hx1 with rfl | hx1
                · omega
                · have b1 := (M10.Cont.bnd hr').2
                  have k : x.1 ≥ y'.1 := by
                    have hr2 := hr'.2.2.2
                    have ge : ∀ {q : List (Nat × Nat)} {b : Nat}, M10.Cont b n' q → ∀ x ∈ q, b ≤ x.1 := by
                      intro q
                      induction q with
                      | nil => intro b _ x hx; cases hx
                      | cons w q ih =>
                        intro b hc x hx
                        rcases List.mem_cons.mp hx with rfl | hx
                        · have := hc.1; omega
                        · have := ih hc.2.2.2 x hx
                          have := hc.1
                          have := hc.2.1
                          omega
                    have := ge hr2 x hx1
                    have := hr'.2.1
                    have := hr'.1
                    omega
                  omega
          obtain ⟨y', r2, rfl, ey⟩ := key
          have y2 : y'.1 = z'.2 := hr'.1
          have ez : z' = z := Prod.ext (by omega) (by omega)
          subst ez
          obtain ⟨A, U, U', t, q1, q2, q3, q4, q5, q6, q7⟩ := cont_near hn hn' (y :: r) (y' :: r2) z'.2 h.2.2.2 hr' e1
          refine ⟨z' :: A, U, U', t, by rw [q1]; rfl, by rw [q2]; rfl, ⟨h.1, h.2.1, h.2.2.1, q3⟩, q4, q5, q6, fun x hx => ?_⟩
          rcases List.mem_cons.mp hx with rfl | hx
          · exact c
          · exact q7 x hx
    · exact ⟨[], z :: r, ps', b, rfl, rfl, rfl, h, h', by have := h.1; have := h.2.2.1; omega, fun z hz => nomatch hz⟩
theorem cont_far {G n : Nat} : ∀ (ps : List (Nat × Nat)) (b : Nat), M10.Cont b n ps → ∃ V B e, ps = V ++ B ∧ B.map (·.1) = (ps.map (·.1)).filter (fun s => decide (G ≤ s)) ∧ M10.Cont b e V ∧ M10.Cont e n B ∧ (∀ z ∈ V, z.1 < G) ∧ (∀ z ∈ B, G ≤ z.1) ∧ (b ≤ G + 2 → e ≤ G + 2)
  | [], b, h => ⟨[], [], b, rfl, rfl, rfl, h, (fun z hz => nomatch hz), (fun z hz => nomatch hz), id⟩
  | z :: r, b, h => by
    have zb := h.1
    have z3 := h.2.2.1
    have z2 := h.2.1
    obtain ⟨V, B, e, q1, q2, q3, q4, q5, q6, q7⟩ := cont_far (G := G) r z.2 h.2.2.2
    by_cases c : G ≤ z.1
    · have vn : V = [] := by
        cases V with
        | nil => rfl
        | cons y V =>
          have := q5 y List.mem_cons_self
          have := q3.1
          omega
      subst vn
      have : z.2 = e := q3
      refine ⟨[], z :: r, b, rfl, ?_, rfl, h, (fun z hz => nomatch hz), fun x hx => ?_, id⟩
      · rw [List.map_cons, fpos (p := fun s => decide (G ≤ s)) (decide_eq_true c), ← q2, q1]
        rfl
      · rcases List.mem_cons.mp hx with rfl | hx
        · exact c
        · rw [q1] at hx
          exact q6 x hx
    · refine ⟨z :: V, B, e, by rw [q1]; rfl, ?_, ⟨h.1, h.2.1, h.2.2.1, q3⟩, q4, fun x hx => ?_, q6, fun _ => q7 (by omega)⟩
      · rw [List.map_cons, fneg (p := fun s => decide (G ≤ s)) (decide_eq_false c)]
        exact q2
      · rcases List.mem_cons.mp hx with rfl | hx
        · omega
        · exact q5 x hx
def shp (g : Nat) (z : Nat × Nat) : Nat × Nat := (z.1 + g, z.2 + g)
def mkp (R : Nat) : List Nat → List (Nat × Nat)
  | [] => []
  | [s] => [(s, R)]
  | s :: t :: r => (s, t) :: mkp R (t :: r)
theorem cont_cuts {n g R : Nat} (hn : n = R + g) : ∀ (w : List Nat) (B : List (Nat × Nat)) (e : Nat), M10.Cont e n B → B.map (·.1) = w.map (· + g) → B = (mkp R w).map (shp g)
  | [], [], e, h, q => rfl
  | [], _ :: _, e, h, q => by cases q
  | _ :: _, [], e, h, q => by cases q
  | [s], [z], e, h, q => by
    have q1 : z.1 = s + g := (List.cons.inj q).1
    have q2 : z.2 = n := h.2.2.2
    show [z] = [(s + g, R + g)]
    rw [← q1, ← hn, ← q2]
  | [s], _ :: _ :: _, e, h, q => by
    have := congrArg List.length q
    simp at this
  | s :: t :: r, [_], e, h, q => by
    have := congrArg List.length q
    simp at this
  | s :: t :: r, z :: y :: B, e, h, q => by
    have q1 : z.1 = s + g := (List.cons.inj q).1
    have q2 : y.1 = t + g := (List.cons.inj (List.cons.inj q).2).1
    have yz : y.1 = z.2 := h.2.2.2.1
    have ih := cont_cuts hn (t :: r) (y :: B) z.2 h.2.2.2 (List.cons.inj q).2
    rw [ih]
    show z :: _ = (s + g, t + g) :: _
    rw [← q1, ← q2, yz]
/-- the pieces of two rows of n and n' places whose first L and last R are alike -/
theorem pieces_near {L R g g' n n' : Nat} {ps ps' : List (Nat × Nat)} {w : List Nat} (en : n = R + g) (en' : n' = R + g') (Lg : L ≤ g) (Lg' : L ≤ g') (h : M10.Cont 0 n ps) (h' : M10.Cont 0 n' ps')
    (near : (ps.map (·.1)).filter (fun s => decide (s + 3 ≤ L)) = (ps'.map (·.1)).filter (fun s => decide (s + 3 ≤ L)))
    (far : (ps.map (·.1)).filter (fun s => decide (g + 15 ≤ s)) = w.map (· + g)) (far' : (ps'.map (·.1)).filter (fun s => decide (g' + 15 ≤ s)) = w.map (· + g')) :
    ∃ (A M M' C : List (Nat × Nat)), ps = A ++ M ++ C.map (shp g) ∧ ps' = A ++ M' ++ C.map (shp g') ∧ (∀ z ∈ A, z.2 ≤ L) ∧ 2 * M.length ≤ g - L + 22 ∧ 2 * M'.length ≤ g' - L + 22 := by
  obtain ⟨A, U, U', e, a1, a2, a3, a4, a5, a6, a7⟩ := cont_near (L := L) (by omega) (by omega) ps ps' 0 h h' near
  have half : ∀ {g n : Nat} {ps U : List (Nat × Nat)}, n = R + g → L ≤ g → M10.Cont 0 n ps → ps = A ++ U → M10.Cont e n U → (ps.map (·.1)).filter (fun s => decide (g + 15 ≤ s)) = w.map (· + g) → ∃ M, ps = A ++ M ++ (mkp R w).map (shp g) ∧ 2 * M.length ≤ g - L + 22 := by
    intro g n ps U en Lg h a1 a4 far
    obtain ⟨V, B, e2, b1, b2, b3, b4, b5, b6, b7⟩ := cont_far (G := g + 15) ps 0 h
    rw [far] at b2
    have eB := cont_cuts en w B e2 b4 b2
    have e2' := b7 (by omega)
    have lv : A.length ≤ V.length := by
      rcases Nat.lt_or_ge V.length A.length with c | c
      · have x1 : ps[V.length]? = A[V.length]? := by rw [a1, List.getElem?_append_left c]
        have x2 : ps[V.length]? = B[0]? := by rw [b1, List.getElem?_append_right (Nat.le_refl _), Nat.sub_self]
        obtain ⟨y, hy⟩ : ∃ y, A[V.length]? = some y := ⟨_, List.getElem?_eq_getElem c⟩
        have k1 := a7 y (List.mem_of_getElem? hy)
        rw [hy] at x1
        rw [x1] at x2
        have k2 := b6 y (List.mem_of_getElem? x2.symm)
        have k3 := (M10.Cont.bnd h).2 y (by rw [a1]; exact List.mem_append_left _ (List.mem_of_getElem? hy))
        omega
      · exact c
    have ev : V = A ++ V.drop A.length := by
      have t1 : V.take A.length = A := by
        have := congrArg (List.take A.length) (a1.symm.trans b1)
        rw [List.take_left, List.take_append_of_le_length lv] at this
        exact this.symm
      exact (List.take_append_drop A.length V).symm.trans (by rw [t1])
    refine ⟨V.drop A.length, by rw [← ev, ← eB]; exact b1, ?_⟩
    rw [ev] at b3
    obtain ⟨t, c1, c2⟩ := cont_split b3
    have : t = e := cont_end c1 a3
    subst this
    have := M10.Cont.len c2
    omega
  obtain ⟨M, m1, m2⟩ := half en Lg h a1 a4 far
  obtain ⟨M', m1', m2'⟩ := half en' Lg' h' a2 a5 far'
  exact ⟨A, M, M', mkp R w, m1, m1', fun z hz => by have := a7 z hz; omega, m2, m2'⟩

/-- grouping goes on from the last group -/
theorem fold_keep (P : List (Nd × Nat)) (q : Nd × Nat) : ∀ W : List Nd, W.foldl stepG (P ++ [q]) = P ++ W.foldl stepG [q]
  | [] => rfl
  | n :: W => by
    obtain ⟨m, c⟩ := q
    show W.foldl stepG (stepG (P ++ [(m, c)]) n) = P ++ W.foldl stepG (stepG [(m, c)] n)
    by_cases e : m = n
    · subst e
      have h1 : stepG [(m, c)] m = [(m, c + 1)] := stepG_eq (i := [])
      rw [stepG_eq, h1]
      exact fold_keep P (m, c + 1) W
    · have h1 : stepG [(m, c)] n = [(m, c), (n, 1)] := stepG_ne (acc := [(m, c)]) fun m' c' h => by
        have : (m, c) = (m', c') := by simpa using h
        cases this
        exact e
      have h2 : stepG (P ++ [(m, c)]) n = (P ++ [(m, c)]) ++ [(n, 1)] := stepG_ne fun m' c' h => by
        rw [List.getLast?_append, List.getLast?_singleton] at h
        have : (m, c) = (m', c') := by simpa using h
        cases this
        exact e
      rw [h1, h2, fold_keep (P ++ [(m, c)]) (n, 1) W, show [(m, c), (n, 1)] = [(m, c)] ++ [(n, 1)] from rfl, fold_keep [(m, c)] (n, 1) W, List.append_assoc]
theorem fold_len : ∀ (W : List Nd) (acc : List (Nd × Nat)), (W.foldl stepG acc).length ≤ acc.length + W.length
  | [], acc => Nat.le_refl _
  | n :: W, acc => by
    have h1 := fold_len W (stepG acc n)
    have h2 := stepG_len acc n
    show (W.foldl stepG (stepG acc n)).length ≤ acc.length + (W.length + 1)
    omega
/-- what a row's groups are behind any other ones: the first of them may melt with what is before it -/
theorem fold_end : ∀ (k : Nat) (Z : List Nd), Z.length = k → ∃ T : List (Nd × Nat), ∀ acc : List (Nd × Nat), ∃ a : List (Nd × Nat), Z.foldl stepG acc = a ++ T ∧ a.length ≤ acc.length + 1
  | 0, Z, hk => by
    have : Z = [] := List.length_eq_zero_iff.mp hk
    subst this
    exact ⟨[], fun acc => ⟨acc, (List.append_nil _).symm, Nat.le_succ _⟩⟩
  | k + 1, Z, hk => by
    match Z, hk with
    | n :: Z, hk =>
      have go : ∀ (j : Nat) (Z : List Nd), Z.length = j → ∃ T : List (Nd × Nat), ∀ c : Nat, ∃ c' : Nat, Z.foldl stepG [(n, c)] = (n, c') :: T := by
        intro j
        induction j with
        | zero =>
          intro Z hj
          have : Z = [] := List.length_eq_zero_iff.mp hj
          subst this
          exact ⟨[], fun c => ⟨c, rfl⟩⟩
        | succ j ih =>
          intro Z hj
          match Z, hj with
          | m :: Z, hj =>
            by_cases e : n = m
            · subst e
              obtain ⟨T, hT⟩ := ih Z (by simpa using hj)
              refine ⟨T, fun c => ?_⟩
              obtain ⟨c', h⟩ := hT (c + 1)
              refine ⟨c', ?_⟩
              show Z.foldl stepG (stepG [(n, c)] n) = _
              rw [show stepG [(n, c)] n = [(n, c + 1)] from stepG_eq (i := [])]
              exact h
            · refine ⟨Z.foldl stepG [(m, 1)], fun c => ⟨c, ?_⟩⟩
              show Z.foldl stepG (stepG [(n, c)] m) = _
              rw [show stepG [(n, c)] m = [(n, c)] ++ [(m, 1)] from stepG_ne fun m' c' h => by
                have : (n, c) = (m', c') := by simpa using h
                cases this
                exact e, fold_keep [(n, c)] (m, 1) Z]
              rfl
      obtain ⟨T, hT⟩ := go Z.length Z rfl
      refine ⟨T, fun acc => ?_⟩
      show ∃ a, Z.foldl stepG (stepG acc n) = a ++ T ∧ _
      obtain ⟨i, c, hi⟩ := stepG_last acc n
      obtain ⟨c', h⟩ := hT c
      refine ⟨i ++ [(n, c')], ?_, ?_⟩
      · rw [hi, fold_keep i (n, c) Z, h, List.append_assoc]
        rfl
      · have := stepG_len acc n
        rw [hi, List.length_append, List.length_singleton] at this
        rw [List.length_append, List.length_singleton]
        exact this
/-- runs of rows with equal ends -/
theorem grp_ends (X Z : List Nd) : ∃ P T : List (Nd × Nat), ∀ Y : List Nd, ∃ u : List (Nd × Nat), grp (X ++ Y ++ Z) = P ++ u ++ T ∧ u.length ≤ Y.length + 2 := by
  obtain ⟨T, hT⟩ := fold_end Z.length Z rfl
  have hX : ∃ (P : List (Nd × Nat)) (Q : List (Nd × Nat)), grp X = P ++ Q ∧ Q.length ≤ 1 ∧ ∀ W : List Nd, W.foldl stepG (grp X) = P ++ W.foldl stepG Q := by
    rcases List.eq_nil_or_concat (grp X) with e | ⟨P, q, e⟩
    · exact ⟨[], [], e, Nat.zero_le _, fun W => by rw [e]; rfl⟩
    · rw [List.concat_eq_append] at e
      exact ⟨P, [q], e, Nat.le_refl _, fun W => by rw [e]; exact fold_keep P q W⟩
  obtain ⟨P, Q, e, lQ, hP⟩ := hX
  refine ⟨P, T, fun Y => ?_⟩
  obtain ⟨a, h1, h2⟩ := hT (Y.foldl stepG Q)
  refine ⟨a, ?_, ?_⟩
  · have : grp (X ++ Y ++ Z) = (Y ++ Z).foldl stepG (grp X) := by
      unfold grp
      rw [List.append_assoc, List.foldl_append]
    rw [this, hP, List.foldl_append, h1, List.append_assoc]
  · have := fold_len Y Q
    omega
theorem pce_left {c s : List Nd} {z : Nat × Nat} (h : z.2 ≤ c.length) : pce (c ++ s) z = (c.take z.2).drop z.1 := by
  unfold pce
  rw [List.take_append_of_le_length h]
theorem pce_right {x e : List Nd} {z : Nat × Nat} : pce (x ++ e) (shp x.length z) = (e.take z.2).drop z.1 := by
  unfold pce shp
  rw [show z.2 + x.length = x.length + z.2 by omega, List.take_append, List.take_of_length_le (by omega), Nat.add_sub_cancel_left, show z.1 + x.length = x.length + z.1 by omega, List.drop_append, List.drop_eq_nil_of_le (by omega), Nat.add_sub_cancel_left, List.nil_append]
theorem mrk_unl {ns : List Nd} {l : Nat} (ok : OkAll ns l) (un : Unb ns) : M07.Unl (mrk ns) := rd_unl 4 _ (fms_unl _ (cds_sgs ns) (unlT_of ok un))
theorem near_row {c s s' : List Nd} (n2 : 2 ≤ (c ++ s).length) (n2' : 2 ≤ (c ++ s').length) : ((pieces (c ++ s)).map (·.1)).filter (fun x => decide (x + 3 ≤ c.length)) = ((pieces (c ++ s')).map (·.1)).filter (fun x => decide (x + 3 ≤ c.length)) := by
  have key := M82.near_cuts (ms := mrk (c ++ s)) (ms' := mrk (c ++ s')) (L := c.length) (by rw [mrk_len, List.length_append]; omega) (by rw [mrk_len, List.length_append]; omega) (by rw [mrk_len]; exact n2) (by rw [mrk_len]; exact n2') (fun i hi => by
    obtain ⟨z, e⟩ := mrk_beg c s
    obtain ⟨z', e'⟩ := mrk_beg c s'
    rw [e, e', List.getElem?_append_left (by rw [mrk_len]; exact hi), List.getElem?_append_left (by rw [mrk_len]; exact hi)])
  rw [mrk_len, mrk_len] at key
  exact key
theorem far_row {x x' e : List Nd} {l : Nat} (n2 : 2 ≤ (x ++ e).length) (n2' : 2 ≤ (x' ++ e).length) (ok : OkAll (x ++ e) l) (un : Unb (x ++ e)) (lt : ∀ y ∈ fms ((x ++ e).map cd), y < 2 ^ 64) :
    ∃ w : List Nat, ((pieces (x ++ e)).map (·.1)).filter (fun s => decide (x.length + 15 ≤ s)) = w.map (· + x.length) ∧ ((pieces (x' ++ e)).map (·.1)).filter (fun s => decide (x'.length + 15 ≤ s)) = w.map (· + x'.length) := by
  have key := M82.far_cuts (ms := mrk (x ++ e)) (ms' := mrk (x' ++ e)) (g := x.length) (g' := x'.length) (R := e.length) (by rw [mrk_len, List.length_append]) (by rw [mrk_len, List.length_append]) (by rw [mrk_len]; exact n2) (by rw [mrk_len]; exact n2') (mrk_unl ok un)
    (M82.rounds_le (fms_unl _ (cds_sgs _) (unlT_of ok un)) lt) (fun j hj => mrk_end x x' e j hj)
  rw [mrk_len, mrk_len] at key
  exact key
theorem blocks_near {c m m' e : List Nd} {l : Nat} (n2 : 2 ≤ (c ++ m ++ e).length) (n2' : 2 ≤ (c ++ m' ++ e).length) (ok : OkAll (c ++ m ++ e) l) (un : Unb (c ++ m ++ e)) (lt : ∀ y ∈ fms ((c ++ m ++ e).map cd), y < 2 ^ 64) :
    ∃ X Y Y' Z : List Nd, ((pieces (c ++ m ++ e)).map fun z => Nd.blk (pce (c ++ m ++ e) z)) = X ++ Y ++ Z ∧ ((pieces (c ++ m' ++ e)).map fun z => Nd.blk (pce (c ++ m' ++ e) z)) = X ++ Y' ++ Z ∧ 2 * Y.length ≤ m.length + 22 ∧ 2 * Y'.length ≤ m'.length + 22 := by
  obtain ⟨w, f1, f2⟩ := far_row (x := c ++ m) (x' := c ++ m') n2 n2' ok un lt
  have nr := near_row (c := c) (s := m ++ e) (s' := m' ++ e) (by rw [← List.append_assoc]; exact n2) (by rw [← List.append_assoc]; exact n2')
  rw [← List.append_assoc, ← List.append_assoc] at nr
  have h := pieces_cont n2
  have h' := pieces_cont n2'
  have len : ∀ q : List Nd, (c ++ q ++ e).length = e.length + (c ++ q).length := fun q => by rw [List.length_append]; omega
  obtain ⟨A, M, M', C, p1, p2, a1, m1, m2⟩ := pieces_near (R := e.length) (g := (c ++ m).length) (g' := (c ++ m').length) (L := c.length) (len m) (len m') (by rw [List.length_append]; omega) (by rw [List.length_append]; omega) h h' nr f1 f2
  have k1 : ∀ q : List Nd, A.map (fun z => Nd.blk (pce (c ++ q ++ e) z)) = A.map fun z => Nd.blk ((c.take z.2).drop z.1) := fun q => List.map_congr_left fun z hz => by
    rw [List.append_assoc, pce_left (a1 z hz)]
  have k2 : ∀ q : List Nd, (C.map (shp (c ++ q).length)).map (fun z => Nd.blk (pce (c ++ q ++ e) z)) = C.map fun z => Nd.blk ((e.take z.2).drop z.1) := fun q => by
    rw [List.map_map]
    refine List.map_congr_left fun z hz => ?_
    show Nd.blk (pce (c ++ q ++ e) (shp (c ++ q).length z)) = _
    rw [pce_right]
  refine ⟨A.map fun z => Nd.blk ((c.take z.2).drop z.1), M.map fun z => Nd.blk (pce (c ++ m ++ e) z), M'.map fun z => Nd.blk (pce (c ++ m' ++ e) z), C.map fun z => Nd.blk ((e.take z.2).drop z.1), ?_, ?_, ?_, ?_⟩
  · rw [p1, List.map_append, List.map_append, k1, k2]
  · rw [p2, List.map_append, List.map_append, k1, k2]
  · rw [List.length_map]
    rw [List.length_append] at m1
    omega
  · rw [List.length_map]
    rw [List.length_append] at m2
    omega
/-- the law's own count: what is left between the longest equal beginning and the longest equal end behind it -/
theorem ends_count {α : Type} {a b x u u' z : List α} {l r : Nat} (ea : a = x ++ u ++ z) (eb : b = x ++ u' ++ z) (l1 : l ≤ min a.length b.length) (l2 : l = min a.length b.length ∨ a[l]? ≠ b[l]?)
    (r1 : r ≤ min a.length b.length - l) (r2 : r = min a.length b.length - l ∨ a.reverse[r]? ≠ b.reverse[r]?) : max a.length b.length - l - r ≤ max u.length u'.length := by
  have la := congrArg List.length ea
  have lb := congrArg List.length eb
  simp only [List.length_append] at la lb
  have lx : x.length ≤ l := by
    rcases l2 with e | e
    · omega
    · rcases Nat.lt_or_ge l x.length with c | c
      · refine absurd ?_ e
        rw [ea, eb, List.append_assoc, List.append_assoc, List.getElem?_append_left c, List.getElem?_append_left c]
      · exact c
  rcases r2 with e | e
  · omega
  · have lz : z.length ≤ r := by
      rcases Nat.lt_or_ge r z.length with c | c
      · refine absurd ?_ e
        rw [ea, eb, List.reverse_append (as := x ++ u) (bs := z), List.reverse_append (as := x ++ u') (bs := z), List.getElem?_append_left (by rw [List.length_reverse]; exact c), List.getElem?_append_left (by rw [List.length_reverse]; exact c)]
      · exact c
    omega
end C82

set_option Elab.async false
set_option linter.all false
set_option maxRecDepth 100000
namespace C82
open PySem PySem.Spec PyProof.Rows L2 Loc RZ
/-! ### made_runs and the law's own joining -/
section
variable {P : Program} {w : World} {K : PySem.W.Frag} {mg : Str → Option Value} {base : Heap}
theorem scRunOf : FnScope ["node", "count"] ["node", "count"] (defScope sRunOf) := ⟨rfl, rfl, rfl, by decide +kernel, rfl, by decide +kernel, by decide +kernel⟩
theorem scMade : FnScope ["nodes", "made", "begin", "end"] ["nodes"] (defScope sMade) := ⟨rfl, rfl, rfl, by decide +kernel, rfl, by decide +kernel, by decide +kernel⟩
def spRunOf (K : PySem.W.Frag) : Sp := fun vs H Q _ => ∃ (v : V) (n : Nd) (z : Int) (c : Nat), vs = [v, .int z] ∧ z = c ∧ NdV K H v n ∧ ∀ H' u, Same H H' → NdV K H' u (mkRun (n, c)) → Q u H'
theorem ok_runof {f : Addr} {fd : FuncData} {k : Nat} (F : Fun K "run_of" "run_of" sRunOf f fd) : FnOk P w K mg base CX0 (k + 1) f fd ["node", "count"] (spRunOf K) := by
  refine F.ok scRunOf (fun vs H Q E h => ?_) (fun cdv A outer s H vs Q E hr h => ?_)
  · obtain ⟨v, n, z, c, rfl, _⟩ := h
    rfl
  · obtain ⟨v, n, z, c, rfl, rfl, hn, q⟩ := h
    refine ⟨_, pss_cons (ps_if (pt_cmpR op_eq (pv 1) pe_int (nomark _)) (pss_one (ps_ret (pv 0))) pss_nil) (pss_one (ps_ret (pe_tup (pa_cons pe_str (pa_cons (pv 0) (pa_cons (pv 1) pa_nil)))))), ?_⟩
    refine ⟨_, rfl, rfl, _, rfl, ite2 (fun e => ?_) (fun e => ?_)⟩
    · have e0 : (c : Int) = 1 := V.int.inj (of_decide_eq_true e)
      have e1 : c = 1 := by omega
      refine ⟨v, rfl, q H v (Same.refl H) ?_⟩
      unfold mkRun
      rw [if_pos e1]
      exact hn
    · have e1 : c ≠ 1 := fun z => e (by rw [z]; rfl)
      refine ⟨v, rfl, _, rfl, (show 3 ≤ sizeLine from by decide), fun p hp => q _ _ (sameN hp) ?_⟩
      unfold mkRun
      rw [if_neg e1]
      exact .ofRun (.inl (.inl upd_same)) (hn.up (.of (sameN hp)))
def spMade (K : PySem.W.Frag) : Sp := fun vs H Q _ => ∃ (a : Addr) (us : List V) (ns : List Nd) (l : Nat), vs = [.ref a] ∧ SqT K H a us ∧ NdsV K H us ns ∧ OkAll ns l ∧ l ≤ 20 ∧ ns.length ≤ 100000 ∧
  ∀ H' p ws, Same H H' → H' p = some (.tup ws) → NdsV K H' ws (mkRuns ns) → Q (.ref p) H'
theorem grp_take {ns : List Nd} {b e : Nat} {x : Nd} (hbe : b < e) (he : e ≤ ns.length) (h : ∀ j, b ≤ j → j < e → ns[j]? = some x) (hl : (ns.take b).getLast? ≠ some x) : grp (ns.take e) = grp (ns.take b) ++ [(x, e - b)] := by
  have : ns.take e = ns.take b ++ List.replicate ((e - b - 1) + 1) x := by
    refine List.ext_getElem? fun j => ?_
    rw [List.getElem?_append, List.getElem?_take, List.getElem?_take, List.length_take, List.getElem?_replicate]
    rcases Nat.lt_or_ge j b with c | c
    · rw [if_pos (by omega), if_pos (by omega), if_pos c]
    · rw [if_neg (show ¬ j < min b ns.length by omega)]
      rcases Nat.lt_or_ge j e with c2 | c2
      · rw [if_pos c2, if_pos (by omega), h j c c2]
      · rw [if_neg (by omega), if_neg (by omega)]
  rw [this, grp_rep _ _ hl]
  congr 3
  omega
theorem ok_made {f g : Addr} {fd gd : FuncData} {k : Nat} (F : Fun K "made_runs" "made_runs" sMade f fd) (R : Fun K "run_of" "run_of" sRunOf g gd) (gR : mg "run_of" = some (.ref g)) (bR : Binds K gd ["node", "count"] [])
    (ml : mg "len" = none) (mt : mg "tuple" = none) : FnOk P w K mg base CX0 (k + 2) f fd ["nodes"] (spMade K) := by
  have GR : FnOk P w K mg base CX0 (k + 1) g gd ["node", "count"] (spRunOf K) := ok_runof R
  refine F.ok scMade (fun vs H Q E h => ?_) (fun cdv A outer s H vs Q E hr h => ?_)
  · obtain ⟨a, us, ns, l, rfl, _⟩ := h
    rfl
  · obtain ⟨a, us, ns, l, rfl, hS, hn, ok, l20, hlen, q⟩ := h
    refine ⟨_, pss_cons (ps_set (i := 1) scMade.nd rfl (.inl rfl) (pe_lst pa_nil))
      (pss_cons (ps_set (i := 2) scMade.nd rfl (.inl rfl) pe_int)
      (pss_cons (ps_while PassesOwn.never (pt_cmpR op_lt (pv 2) (pe_callB call_len_seq (by rfl) ml PySem.boot_len (pa_cons (pv 0) pa_nil)) (nomark _))
        (pss_cons (ps_set (i := 3) scMade.nd rfl (.inl rfl) (pe_op op_add (pv 2) pe_int))
        (pss_cons (ps_while PassesOwn.never (PW.pt (pw_and (pt_cmpR op_lt (pv 3) (pe_callB call_len_seq (by rfl) ml PySem.boot_len (pa_cons (pv 0) pa_nil)) (nomark _))
            (pw_and1 (pt_cmpR (op_eqD hr.units) (pe_ix ix_tup (pv 0) (pv 3) (fun _ _ => rfl)) (pe_ix ix_tup (pv 0) (pv 2) (fun _ _ => rfl)) (nomark _)))))
          (pss_one (ps_aug (i := 3) scMade.nd rfl (.inl rfl) pe_int ip_add)))
        (pss_cons (ps_expr (pe_bm PySem.F.plainAttrs_list PySem.F.slot_list_append PySem.F.type_list_append mt_append (pv 1)
            (pa_cons (pe_call GR hr (by rfl) gR R.kp bR .nil pass0 (pa_cons (pe_ix ix_tup (pv 0) (pv 2) (fun _ _ => rfl)) (pa_cons (pe_op op_sub (pv 3) (pv 2)) pa_nil))) pa_nil)))
        (pss_one (ps_set (i := 2) scMade.nd rfl (.inl rfl) (pv 3)))))))
      (pss_one (ps_ret (pe_callTy call_tuple_of (by rfl) mt PyProof.Rows.boot_tuple (pa_cons (pv 1) pa_nil)))))), ?_⟩
    refine ⟨(show 0 ≤ sizeLine from by decide), fun M hM => ?_⟩
    refine ⟨fun m σ H' => ∃ (b : Nat) (ws : List V) (y3 : Option V), m = ns.length - b ∧ b ≤ ns.length ∧ σ = [some (.ref a), some (.ref M), some (.int b), y3] ∧ H' M = some (.lst ws) ∧ NdsV K H' ws (mkRuns (ns.take b)) ∧ Same H H' ∧
        (∀ x, ns[b]? = some x → (ns.take b).getLast? ≠ some x), ⟨ns.length, 0, [], none, rfl, Nat.zero_le _, rfl, upd_same, ?_, sameN hM, fun x _ => by simp⟩, ?_⟩
    · rw [List.take_zero]
      exact .nil
    rintro m σ H1 ⟨b, ws, y3, rfl, hb, rfl, e1, e2, s1, bd⟩
    have hS1 := sameT s1 hS
    have hn1 : NdsV K H1 us ns := hn.up (.of s1)
    have hlu := hn.len
    refine ⟨_, rfl, .ref a, rfl, a, us, rfl, .inr hS1, _, _, rfl, rfl, _, rfl, ite2 (fun e => ?_) (fun e => ?_)⟩
    · have hlt : b < ns.length := by
        have : (b : Int) < ((us.length : Nat) : Int) := of_decide_eq_true e
        omega
      obtain ⟨x, hx⟩ := get_of hlt
      obtain ⟨vx, hvx, kx⟩ := hn1.at hx
      have okx := ok.mem x (List.mem_of_getElem? hx)
      refine ⟨fun σ' H' => ∃ (b' : Nat) (ws : List V) (y3 : Option V), b < b' ∧ b' ≤ ns.length ∧ σ' = [some (.ref a), some (.ref M), some (.int b'), y3] ∧ H' M = some (.lst ws) ∧ NdsV K H' ws (mkRuns (ns.take b')) ∧ Same H H' ∧ (∀ x, ns[b']? = some x → (ns.take b').getLast? ≠ some x),
        fun σ' H' hN => ?_, ?_⟩
      · obtain ⟨b', w', y, k1, k2, k3⟩ := hN
        exact ⟨ns.length - b', by omega, b', w', y, rfl, k2, k3⟩
      refine ⟨_, rfl, _, 1, rfl, rfl, ?_⟩
      refine ⟨fun m σ H' => ∃ e : Nat, m = ns.length - e ∧ b < e ∧ e ≤ ns.length ∧ σ = [some (.ref a), some (.ref M), some (.int b), some (.int e)] ∧ H' = H1 ∧ ∀ j, b ≤ j → j < e → ns[j]? = some x,
        ⟨_, b + 1, rfl, by omega, hlt, ?_, rfl, fun j j1 j2 => by rw [show j = b by omega]; exact hx⟩, ?_⟩
      · show _ = [some (V.ref a), some (V.ref M), some (V.int b), some (V.int ((b + 1 : Nat) : Int))]
        rw [Int.natCast_add]
        rfl
      rintro m σ Hc ⟨e', rfl, be, he, rfl, rfl, hj⟩
      refine ⟨_, rfl, .ref a, rfl, a, us, rfl, .inr hS1, _, _, rfl, rfl, _, rfl, ?_⟩
      by_cases c : e' < ns.length
      · have d1 : decide ((e' : Int) < ((us.length : Nat) : Int)) = true := decide_eq_true (by omega)
        rw [d1]
        obtain ⟨y, hy⟩ := get_of c
        obtain ⟨vy, hvy, ky⟩ := hn1.at hy
        have oky := ok.mem y (List.mem_of_getElem? hy)
        refine ⟨.ref a, rfl, _, rfl, a, us, _, vy, rfl, rfl, hS1, atI_nat hvy, .ref a, rfl, _, rfl, a, us, _, vx, rfl, rfl, hS1, atI_nat hvx, _, _, ky, kx, shaped_dat oky l20, shaped_dat okx l20, _, rfl, ?_⟩
        by_cases eq : y = x
        · rw [eqv_yes eq]
          refine ⟨fun σ' H' => σ' = [some (.ref a), some (.ref M), some (.int b), some (.int ((e' + 1 : Nat) : Int))] ∧ H' = Hc, fun σ' H' hN => ⟨ns.length - (e' + 1), by omega, e' + 1, rfl, by omega, c, hN.1, hN.2, fun j j1 j2 => ?_⟩, ?_⟩
          · rcases Nat.lt_or_ge j e' with z | z
            · exact hj j j1 z
            · rw [show j = e' by omega, hy, eq]
          · refine ⟨_, rfl, e', 1, rfl, rfl, ?_, rfl⟩
            rw [Int.natCast_add]
            rfl
        · rw [eqv_no eq]
          have gt := grp_take be he hj (bd x hx)
          refine ⟨.ref M, rfl, .inl ⟨rfl, _, .inl (.inl e1)⟩, .ref a, rfl, _, rfl, a, us, _, vx, rfl, rfl, hS1, atI_nat hvx, _, rfl, _, rfl, _, _, rfl, rfl, vx, x, _, e' - b, rfl, by omega, kx, fun H2 u s2 hu => ⟨M, _, _, rfl, rfl, s2 _ _ e1, ?_, _, rfl, e', ws ++ [u], some (.int e'), be, he, rfl, upd_same, ?_, sameW (s1.trans s2) hM, fun z hz => ?_⟩⟩
          · rw [e2.len]
            refine line5 ?_
            have g1 := grp_len (ns.take b)
            show ((grp (ns.take b)).map mkRun).length ≤ 100000
            rw [List.length_map]
            rw [List.length_take] at g1
            omega
          · have : mkRuns (ns.take e') = mkRuns (ns.take b) ++ [mkRun (x, e' - b)] := by
              unfold mkRuns
              rw [gt, List.map_append]
              rfl
            rw [this]
            have t2 : Tups K H2 (upd H2 M (.lst (ws ++ [u]))) := (But.set (p := M)).tups (s2 _ _ e1)
            exact ((e2.up (.of s2)).up t2).app (.one (hu.up t2))
          · rw [hy] at hz
            cases hz
            have : (ns.take e').getLast? = some x := by
              rw [List.getLast?_eq_getElem?, List.length_take, List.getElem?_take, if_pos (by omega), show min e' ns.length - 1 = e' - 1 by omega]
              exact hj (e' - 1) (by omega) (by omega)
            rw [this]
            intro z
            exact eq (Option.some.inj z).symm
      · have d1 : decide ((e' : Int) < ((us.length : Nat) : Int)) = false := decide_eq_false (by omega)
        rw [d1]
        have gt := grp_take be he hj (bd x hx)
        refine ⟨.ref M, rfl, .inl ⟨rfl, _, .inl (.inl e1)⟩, .ref a, rfl, _, rfl, a, us, _, vx, rfl, rfl, hS1, atI_nat hvx, _, rfl, _, rfl, _, _, rfl, rfl, vx, x, _, e' - b, rfl, by omega, kx, fun H2 u s2 hu => ⟨M, _, _, rfl, rfl, s2 _ _ e1, ?_, _, rfl, e', ws ++ [u], some (.int e'), be, he, rfl, upd_same, ?_, sameW (s1.trans s2) hM, fun z hz => ?_⟩⟩
        · rw [e2.len]
          refine line5 ?_
          have g1 := grp_len (ns.take b)
          show ((grp (ns.take b)).map mkRun).length ≤ 100000
          rw [List.length_map]
          rw [List.length_take] at g1
          omega
        · have : mkRuns (ns.take e') = mkRuns (ns.take b) ++ [mkRun (x, e' - b)] := by
            unfold mkRuns
            rw [gt, List.map_append]
            rfl
          rw [this]
          have t2 : Tups K H2 (upd H2 M (.lst (ws ++ [u]))) := (But.set (p := M)).tups (s2 _ _ e1)
          exact ((e2.up (.of s2)).up t2).app (.one (hu.up t2))
        · rw [List.getElem?_eq_none_iff.mpr (by omega)] at hz
          cases hz
    · have hb' : b = ns.length := by
        have : ¬ (b : Int) < ((us.length : Nat) : Int) := fun z => e (decide_eq_true z)
        omega
      rw [hb', List.take_length] at e2
      refine ⟨.ref M, rfl, M, _, rfl, .inl ⟨.inl (.inl e1), fun t ht => q _ t _ (s1.trans (sameN ht)) upd_same (e2.up (.of (sameN ht)))⟩⟩
end
end C82

set_option Elab.async false
set_option linter.all false
set_option maxRecDepth 100000
namespace C82
open PySem PySem.Spec PyProof.Rows L2 Loc RZ
/-! ### the law's pot -/
section
variable {P : Program} {w : World} {K : PySem.W.Frag} {mg : Str → Option Value} {base : Heap}
theorem scPot : FnScope ["script", "k", "cell", "own"] ["script", "k"] (defScope sPot) := ⟨rfl, rfl, rfl, by decide +kernel, rfl, by decide +kernel, by decide +kernel⟩
theorem scTake : FnScope ["pot", "bound", "digit", "prime", "mixed"] ["pot", "bound"] (defScope sTake) := ⟨rfl, rfl, rfl, by decide +kernel, rfl, by decide +kernel, by decide +kernel⟩
theorem ok_pot {f : Addr} {fd : FuncData} {k : Nat} (F : Fun K "_law_pot" "_law_pot" sPot f fd) (ml : mg "len" = none) (ma : mg "abs" = none) (mi : mg "int" = none) :
    FnOk P w K mg base CX0 (k + 1) f fd ["script", "k"] (spPot K) := by
  refine F.ok scPot (fun vs H Q E h => ?_) (fun cdv A outer s H vs Q E hr h => ?_)
  · obtain ⟨a, ns, k, rfl, _⟩ := h
    rfl
  · obtain ⟨a, ns, k, rfl, hS, hl, hk, q⟩ := h
    refine ⟨_, pss_cons (ps_set (i := 2) scPot.nd rfl (.inl rfl) (pe_ifExp (pt_cmpR op_lt (pv 1) (pe_callB call_len_seq (by rfl) ml PySem.boot_len (pa_cons (pv 0) pa_nil)) (nomark _))
          (pe_ix ix_list (pv 0) (pv 1) (fun _ _ => rfl)) (pe_op op_add (pe_op op_mul pe_int (pv 1)) pe_int)))
      (pss_cons (ps_set (i := 3) scPot.nd rfl (.inl rfl) (pe_op op_mul
          (pe_op op_mod (pe_callB call_abs (by rfl) ma (by decide +kernel) (pa_cons (pv 2) pa_nil)) (pe_op op_powW (pe_op op_pow pe_int pe_int) pe_int))
          (pe_callTy call_int1 (by rfl) mi (by decide +kernel) (pa_cons (pe_cmpR op_ge (pe_callB call_abs (by rfl) ma (by decide +kernel) (pa_cons (pv 2) pa_nil)) (pe_op op_pow pe_int pe_int) (nomark _)) pa_nil))))
      (pss_one (ps_ret (pe_lst (pa_cons (pv 3) (pa_cons (pe_op op_mod (pe_op op_add (pe_op op_add (pe_op op_mul (pe_op op_mod (pv 2) pe_int) pe_int) (pe_op op_mul (pe_op op_mul pe_int (pv 1)) (pv 1))) pe_int) pe_int)
          (pa_cons pe_int pa_nil))))))), ?_⟩
    refine ⟨.int k, rfl, .ref a, rfl, a, ns.map V.int, rfl, .inl hS, k, (ns.map V.int).length, rfl, rfl, _, rfl, ?_⟩
    refine joinIf (fun v H' => (∃ c : Int, v = .int c) ∧ H' = H) ?key (fun e R hR => ?yes) (fun e R hR => ?no)
    case yes =>
      have e1 : (k : Int) < ((ns.map V.int).length : Int) := of_decide_eq_true e
      rw [List.length_map] at e1
      have hk2 : k < ns.length := by omega
      refine ⟨.ref a, rfl, .int k, rfl, a, _, k, .int ns[k], rfl, rfl, hS, atI_nat (by rw [List.getElem?_map, List.getElem?_eq_getElem hk2]; rfl), hR _ _ ⟨⟨_, rfl⟩, rfl⟩⟩
    case no =>
      exact ⟨.int k, rfl, 17, k, rfl, rfl, .inl ⟨by decide, by decide⟩, _, _, rfl, rfl, hR _ _ ⟨⟨_, rfl⟩, rfl⟩⟩
    case key =>
      rintro v H' ⟨⟨c, rfl⟩, rfl⟩
      refine ⟨.int c, rfl, c, rfl, 10, 60, rfl, rfl, ⟨by decide, by decide, by decide⟩, _, _, rfl, rfl, pow60, _, _, rfl, rfl, pow300', ?_⟩
      have m1 := mod_pos (a := if c < 0 then -c else c) pow300'
      have m2 := pow300
      refine ⟨.int c, rfl, c, rfl, 10, 18, rfl, rfl, ⟨by decide, by decide, by decide⟩, _, _, rfl, rfl, .inr ⟨_, rfl, _, _, rfl, rfl, .inr ?_, ?_⟩⟩
      · exact bit_small _
      have m3 := mul_bit ⟨m1.1, Int.lt_trans m1.2 m2⟩ (decide ((10 : Int) ^ (18 : Int).toNat ≤ if c < 0 then -c else c))
      have m4 := mod_pos (a := c) (show (0 : Int) < 2305843009213693951 by decide)
      refine ⟨_, rfl, .int c, rfl, c, _, rfl, rfl, (by show (0 : Int) < 2305843009213693951; decide), _, _, rfl, rfl, .inr ⟨by decide, by decide⟩, .int k, rfl, 7907, k, rfl, rfl, .inl ⟨by decide, by decide⟩, .int k, rfl, _, _, rfl, rfl, .inr ⟨by omega, by omega⟩,
        _, _, rfl, rfl, _, 41, rfl, rfl, _, _, rfl, rfl, (by show (0 : Int) < 2305843009213693921; decide), (show 3 ≤ sizeLine from by decide), fun p hp => ?_⟩
      have m5 := mod_pos (a := c % 2305843009213693951 * 69691 + 7907 * (k : Int) * (k : Int) + 41) (show (0 : Int) < 2305843009213693921 by decide)
      exact q p _ hp ⟨_, _, 0, rfl, m3.1, m3.2, m5.1, by omega, by decide, by decide⟩
theorem ok_take {f : Addr} {fd : FuncData} {k : Nat} (F : Fun K "_law_take" "_law_take" sTake f fd) : FnOk P w K mg base CX0 (k + 1) f fd ["pot", "bound"] spTake := by
  refine F.ok scTake (fun vs H Q E h => ?_) (fun cdv A outer s H vs Q E hr h => ?_)
  · obtain ⟨p, b, c, rfl, _⟩ := h
    rfl
  · obtain ⟨p, b, c, rfl, ⟨o, ep, own, mix, cnt, rfl, h1, h2, h3, h4, h5, h6⟩, hc, b1, b2, q⟩ := h
    refine ⟨_, pss_cons (ps_if (pt_cmpR op_gt (pe_ix ix_list (pv 0) pe_int (fun _ _ => rfl)) pe_int (nomark _))
        (pss_cons (ps_set (i := 2) scTake.nd rfl (.inl rfl) (pe_op op_mod (pe_ix ix_list (pv 0) pe_int (fun _ _ => rfl)) (pv 1)))
          (pss_cons (ps_asg (pe_op op_fdivW (pe_ix ix_list (pv 0) pe_int (fun _ _ => rfl)) (pv 1)) (pg_sub (pv 0) pe_int set_list)) (pss_one (ps_ret (pv 2))))) pss_nil)
      (pss_cons (ps_asg (pe_op op_add (pe_ix ix_list (pv 0) pe_int (fun _ _ => rfl)) pe_int) (pg_sub (pv 0) pe_int set_list))
      (pss_cons (ps_set (i := 3) scTake.nd rfl (.inl rfl) (pe_ix ix_list (pe_lst (pa_cons pe_int (pa_cons pe_int (pa_cons pe_int (pa_cons pe_int (pa_cons pe_int pa_nil)))))) (pe_op op_mod (pe_ix ix_list (pv 0) pe_int (fun _ _ => rfl)) pe_int) (fun _ _ => rfl)))
      (pss_cons (ps_set (i := 4) scTake.nd rfl (.inl rfl) (pe_op op_mod (pe_op op_pow (pe_op op_add (pe_op op_add (pe_ix ix_list (pv 0) pe_int (fun _ _ => rfl))
          (pe_op op_mul (pe_op op_mul pe_int (pe_ix ix_list (pv 0) pe_int (fun _ _ => rfl))) (pe_ix ix_list (pv 0) pe_int (fun _ _ => rfl)))) pe_int) pe_int) (pv 3)))
      (pss_one (ps_ret (pe_op op_mod (pe_op op_fdiv (pe_op op_mod (pe_op op_mul (pv 4) (pe_op op_add (pe_op op_mod (pv 4) pe_int) (pe_op op_mul pe_int (pe_ix ix_list (pv 0) pe_int (fun _ _ => rfl))))) pe_int) pe_int) (pv 1))))))), ?_⟩
    have hS : SqL K H p [.int own, .int mix, .int cnt] := .inl (.inl ep)
    refine ⟨.ref p, rfl, p, _, 0, .int own, rfl, rfl, hS, rfl, own, 0, rfl, rfl, _, rfl, ite2 (fun e => ?_) (fun e => ?_)⟩
    · have hpos : 0 < own := of_decide_eq_true e
      refine ⟨.ref p, rfl, p, _, 0, .int own, rfl, rfl, hS, rfl, .int b, rfl, own, b, rfl, rfl, b1, ?_⟩
      refine ⟨.ref p, rfl, p, _, 0, .int own, rfl, rfl, hS, rfl, .int b, rfl, own, b, rfl, rfl, ⟨b1, ?_⟩, .ref p, rfl, p, _, 0, 0, rfl, rfl, ep, rfl, ?_⟩
      · exact (wide_div (i := own) b1 (natAbs_lt (Int.le_of_lt b1) b2) (by decide) (by decide)).2
      · have dv := div_small h1 b1
        exact ⟨.int (own % b), rfl, q _ _ (mod_pos b1).1 (mod_pos b1).2 .set (.put ⟨own / b, mix, cnt, rfl, dv.1, Int.lt_of_le_of_lt dv.2 h2, h3, h4, h5, by omega⟩)⟩
    · refine ⟨.ref p, rfl, p, _, 2, .int cnt, rfl, rfl, hS, rfl, cnt, 1, rfl, rfl, .ref p, rfl, p, _, 2, 2, rfl, rfl, ep, rfl, ?_⟩
      refine ⟨(show 5 ≤ sizeLine from by decide), fun l hl => ?_⟩
      have np : p ≠ l := fun z => by
        rw [z, upd_same] at hl
        cases hl
      have hS1 : SqL K (upd (upd H p (.lst [.int own, .int mix, .int (cnt + 1)])) l (.lst [.int 2147483647, .int 2147483629, .int 2147483587, .int 2147483579, .int 2147483563])) p [.int own, .int mix, .int (cnt + 1)] :=
        .inl (.inl (by rw [upd_ne np, upd_same]))
      obtain ⟨pr, e1, e2, e3⟩ := prime_at (n := cnt + 1) (by omega)
      have bs := base_small h3 h4 (c := cnt + 1) (by omega) (by omega)
      refine ⟨.ref p, rfl, p, _, 2, .int (cnt + 1), rfl, rfl, hS1, rfl, cnt + 1, 5, rfl, rfl, (show (0 : Int) < 5 by decide), l, _, _, .int pr, rfl, rfl, .inl (.inl upd_same), e1, ?_⟩
      refine ⟨.ref p, rfl, p, _, 1, .int mix, rfl, rfl, hS1, rfl, .ref p, rfl, p, _, 2, .int (cnt + 1), rfl, rfl, hS1, rfl, 99991, cnt + 1, rfl, rfl, .inl ⟨by decide, by decide⟩,
        .ref p, rfl, p, _, 2, .int (cnt + 1), rfl, rfl, hS1, rfl, _, cnt + 1, rfl, rfl, .inr ⟨by omega, by omega⟩, mix, _, rfl, rfl, _, 29, rfl, rfl, _, 3, rfl, rfl, ⟨by decide, by decide, natAbs_lt bs.1 bs.2⟩, .int pr, rfl, _, pr, rfl, rfl, e2, ?_⟩
      have mx := mod_pos (a := (mix + 99991 * (cnt + 1) * (cnt + 1) + 29) ^ (3 : Int).toNat) e2
      have mx1 : -(2 ^ 64) < (mix + 99991 * (cnt + 1) * (cnt + 1) + 29) ^ (3 : Int).toNat % pr := Int.lt_of_lt_of_le (by decide) mx.1
      have mx2 : (mix + 99991 * (cnt + 1) * (cnt + 1) + 29) ^ (3 : Int).toNat % pr < 2 ^ 64 := Int.lt_trans mx.2 (Int.lt_trans e3 (by decide))
      refine ⟨_, rfl, _, rfl, _, 10007, rfl, rfl, (show (0 : Int) < 10007 by decide), .ref p, rfl, p, _, 2, .int (cnt + 1), rfl, rfl, hS1, rfl, 71, cnt + 1, rfl, rfl, .inl ⟨by decide, by decide⟩, _, _, rfl, rfl,
        _, _, rfl, rfl, .inl ⟨mx1, mx2⟩, _, _, rfl, rfl, (show (0 : Int) < 2305843009213693907 by decide), _, 103, rfl, rfl, ⟨by decide, by decide⟩, .int b, rfl, _, b, rfl, rfl, b1, ?_⟩
      exact q _ _ (mod_pos b1).1 (mod_pos b1).2 (But.trans .set (.new hl)) ⟨_, by rw [upd_ne np, upd_same]; rfl, own, mix, cnt + 1, rfl, h1, h2, h3, h4, by omega, by omega⟩
theorem scOf : FnScope ["pot", "some"] ["pot", "some"] (defScope sOf) := ⟨rfl, rfl, rfl, by decide +kernel, rfl, by decide +kernel, by decide +kernel⟩
theorem ok_of {f g : Addr} {fd gd : FuncData} {k : Nat} (F : Fun K "_law_of" "_law_of" sOf f fd) (T : Fun K "_law_take" "_law_take" sTake g gd) (gT : mg "_law_take" = some (.ref g)) (bT : Binds K gd ["pot", "bound"] [])
    (ml : mg "len" = none) : FnOk P w K mg base CX0 (k + 2) f fd ["pot", "some"] spOf := by
  have GT : FnOk P w K mg base CX0 (k + 1) g gd ["pot", "bound"] spTake := ok_take T
  refine F.ok scOf (fun vs H Q E h => ?_) (fun cdv A outer s H vs Q E hr h => ?_)
  · obtain ⟨p, a, xs, c, rfl, _⟩ := h
    rfl
  · obtain ⟨p, a, xs, c, rfl, hp, hc, ne, ha, h0, hl, q⟩ := h
    refine ⟨_, pss_one (ps_ret (pe_ix ix_list (pv 1) (pe_call GT hr (by rfl) gT T.kp bT .nil pass0 (pa_cons (pv 0) (pa_cons (pe_callB call_len_seq (by rfl) ml PySem.boot_len (pa_cons (pv 1) pa_nil)) pa_nil))) (fun _ _ => rfl))), ?_⟩
    have hS : SqL K H a xs := .inl (.inl ha)
    have hx : 0 < xs.length := List.length_pos_iff.mpr h0
    refine ⟨.ref a, rfl, .ref p, rfl, .ref a, rfl, a, xs, rfl, .inl hS, p, xs.length, c, rfl, hp, hc, by omega, small_pow hl, fun d H' d0 d1 bt pt => ?_⟩
    obtain ⟨j, rfl⟩ := Int.eq_ofNat_of_zero_le d0
    have hj : j < xs.length := by omega
    have g : xs[j]? = some xs[j] := List.getElem?_eq_getElem hj
    exact ⟨a, xs, j, xs[j], rfl, rfl, bt.sql ne hS, atI_nat g, q j _ H' g bt pt⟩
end
/-! ### the law's drawn nodes -/
section
variable {P : Program} {w : World} {K : PySem.W.Frag} {mg : Str → Option Value} {base : Heap}
theorem scGround : FnScope ["node"] ["node"] (defScope sGround) := ⟨rfl, rfl, rfl, by decide +kernel, rfl, by decide +kernel, by decide +kernel⟩
theorem ok_ground {f : Addr} {fd : FuncData} {k : Nat} (F : Fun K "_law_ground" "_law_ground" sGround f fd) (mi : mg "isinstance" = none) (mt : mg "tuple" = none) : FnOk P w K mg base CX0 (k + 1) f fd ["node"] (spGround K) := by
  refine F.ok scGround (fun vs H Q E h => ?_) (fun cdv A outer s H vs Q E hr h => ?_)
  · obtain ⟨v, n, rfl, _⟩ := h
    rfl
  · obtain ⟨v, n, rfl, hn, q⟩ := h
    refine ⟨_, pss_one (ps_ret (pe_ifExp (PW.pt (pw_and (pt_val (pe_callB call_isi (by rfl) mi PyProof.Rows.boot_isinstance (pa_cons (pv 0) (pa_cons (pe_bltn (v := .ty "tuple") (by rfl) mt PyProof.Rows.boot_tuple rfl) pa_nil))))
      (pw_and1 (pt_cmpR op_eq (pe_ix ix_tup (pv 0) pe_int (fun _ _ => rfl)) pe_str (nomark _))))) (pe_ix ix_tup (pv 0) pe_int (fun _ _ => rfl)) (pv 0))), ?_⟩
    cases n with
    | el n =>
      have ev := hn.el
      subst ev
      refine ⟨_, rfl, _, _, _, _, false, rfl, .ty "tuple", .base (.int _), kit_ty (by decide +kernel), _, rfl, ?_⟩
      exact ⟨_, rfl, q _ hn⟩
    | run b c =>
      obtain ⟨a, v2, rfl, h1, h2⟩ := hn.run
      refine ⟨_, rfl, _, _, _, _, true, rfl, .ty "tuple", Loc.SqT.ty h1, kit_ty (by decide +kernel), _, rfl, ?_⟩
      refine ⟨.ref a, rfl, a, _, 0, .str "run", rfl, rfl, h1, rfl, rfl, _, rfl, ?_⟩
      rw [decide_eq_true rfl]
      exact ⟨.ref a, rfl, a, _, 1, v2, rfl, rfl, h1, rfl, q _ h2⟩
    | blk ps =>
      obtain ⟨a, b, vs, rfl, h1, h2, h3⟩ := hn.blk
      refine ⟨_, rfl, _, _, _, _, true, rfl, .ty "tuple", Loc.SqT.ty h1, kit_ty (by decide +kernel), _, rfl, ?_⟩
      refine ⟨.ref a, rfl, a, _, 0, .str "block", rfl, rfl, h1, rfl, rfl, _, rfl, ?_⟩
      rw [decide_eq_false (show ¬ (V.str "block" = V.str "run") by decide +kernel)]
      exact ⟨.ref a, rfl, q _ hn⟩
theorem scLeaf : FnScope ["pot", "one"] ["pot"] (defScope sLeaf) := ⟨rfl, rfl, rfl, by decide +kernel, rfl, by decide +kernel, by decide +kernel⟩
theorem ok_leaf {f g o : Addr} {fd gd od : FuncData} {k : Nat} (F : Fun K "_law_leaf" "_law_leaf" sLeaf f fd) (T : Fun K "_law_take" "_law_take" sTake g gd) (gT : mg "_law_take" = some (.ref g)) (bT : Binds K gd ["pot", "bound"] [])
    (O : Fun K "_law_of" "_law_of" sOf o od) (gO : mg "_law_of" = some (.ref o)) (bO : Binds K od ["pot", "some"] []) (ml : mg "len" = none) : FnOk P w K mg base CX0 (k + 3) f fd ["pot"] (spLeaf K) := by
  have GT : FnOk P w K mg base CX0 (k + 1) g gd ["pot", "bound"] spTake := ok_take T
  have GO : FnOk P w K mg base CX0 (k + 2) o od ["pot", "some"] spOf := ok_of O T gT bT ml
  refine F.ok scLeaf (fun vs H Q E h => ?_) (fun cdv A outer s H vs Q E hr h => ?_)
  · obtain ⟨p, c, rfl, _⟩ := h
    rfl
  · obtain ⟨p, c, rfl, hp, hc, q⟩ := h
    have h1 := hr.mono (j := k + 1) (by omega)
    refine ⟨_, pss_cons (ps_set (i := 1) scLeaf.nd rfl (.inl rfl) (pe_call GO hr (by rfl) gO O.kp bO .nil pass0 (pa_cons (pv 0) (pa_cons (pe_lst (pa_cons pe_int (pa_cons pe_int (pa_cons pe_int (pa_cons pe_int (pa_cons pe_int (pa_cons pe_int (pa_cons pe_int
        (pa_cons (pe_op op_pow pe_int pe_int) (pa_cons (pe_call GT h1 (by rfl) gT T.kp bT .nil pass0 (pa_cons (pv 0) (pa_cons (pe_op op_add (pe_op op_pow pe_int pe_int) pe_int) pa_nil))) pa_nil)))))))))) pa_nil))))
      (pss_cons (ps_if (pt_cmpR op_gt (pe_call GT h1 (by rfl) gT T.kp bT .nil pass0 (pa_cons (pv 0) (pa_cons pe_int pa_nil))) pe_int (nomark _)) (pss_one (ps_ret (pv 1))) pss_nil)
      (pss_one (ps_ret (pe_tup (pa_cons pe_str (pa_cons (pv 1) (pa_cons (pe_op op_add pe_int (pe_call GO hr (by rfl) gO O.kp bO .nil pass0 (pa_cons (pv 0) (pa_cons (pe_lst (pa_cons pe_int (pa_cons pe_int (pa_cons pe_int (pa_cons pe_int
        (pa_cons (pe_op op_pow pe_int pe_int) (pa_cons (pe_call GT h1 (by rfl) gT T.kp bT .nil pass0 (pa_cons (pv 0) (pa_cons (pe_op op_pow pe_int pe_int) pa_nil))) pa_nil))))))) pa_nil)))) pa_nil))))))), ?_⟩
    refine ⟨.ref p, rfl, 10, 9, rfl, rfl, ⟨by decide, by decide, by decide⟩, .ref p, rfl, 10, 9, rfl, rfl, ⟨by decide, by decide, by decide⟩, _, 1, rfl, rfl, p, _, c, rfl, hp, by omega, (show (0 : Int) < 10 ^ (9 : Int).toNat + 1 by decide), (show (10 : Int) ^ (9 : Int).toNat + 1 < 2 ^ 1000 by decide +kernel),
      fun d H1 d0 d1 b1 p1 => ⟨(show 9 ≤ sizeLine from by decide), fun l hl => ?_⟩⟩
    have d1' : d < 1000000001 := d1
    refine ⟨p, l, _, _, rfl, p1.new hl, by omega, p1.ne hl, upd_same, List.cons_ne_nil _ _, (show 9 ≤ 1000 from by decide), fun j x H2 hj b2 p2 => ?_⟩
    have sm : Smalls (10 ^ 9) [V.int 0, .int 1, .int 2, .int 7, .int 12, .int 120, .int 9, .int ((10 : Int) ^ (9 : Int).toNat), .int d] :=
      .cons (n := 0) rfl (by decide) (.cons (n := 1) rfl (by decide) (.cons (n := 2) rfl (by decide) (.cons (n := 7) rfl (by decide) (.cons (n := 12) rfl (by decide) (.cons (n := 120) rfl (by decide) (.cons (n := 9) rfl (by decide)
        (.cons (n := 10 ^ 9) rfl (by decide) (.cons (n := d.toNat) (int_congr (by omega)) (by omega) .nil))))))))
    obtain ⟨n, rfl, hn⟩ := sm.at hj
    have b12 : But p H H2 := (b1.trans (.new hl)).trans b2
    refine ⟨.ref p, rfl, p, 3, _, rfl, p2, by omega, by decide, by decide +kernel, fun d2 H3 _ _ b3 p3 => ⟨d2, 0, rfl, rfl, _, rfl, ite2 (fun _ => ?_) (fun _ => ?_)⟩⟩
    · exact ⟨_, rfl, q _ _ _ (b12.trans b3) (p3.le (by omega)) (.ofEl n) (by unfold Ok; exact ⟨rfl, hn⟩)⟩
    · refine ⟨_, rfl, .ref p, rfl, 10, 18, rfl, rfl, ⟨by decide, by decide, by decide⟩, .ref p, rfl, 10, 18, rfl, rfl, ⟨by decide, by decide, by decide⟩, p, _, _, rfl, p3, by omega, (show (0 : Int) < 10 ^ (18 : Int).toNat by decide), (show (10 : Int) ^ (18 : Int).toNat < 2 ^ 1000 by decide +kernel),
        fun d4 H4 d40 d41 b4 p4 => ⟨(show 6 ≤ sizeLine from by decide), fun l4 hl4 => ?_⟩⟩
      have d41' : d4 < 1000000000000000000 := d41
      refine ⟨p, l4, _, _, rfl, p4.new hl4, by omega, p4.ne hl4, upd_same, List.cons_ne_nil _ _, (show 6 ≤ 1000 from by decide), fun j2 x2 H5 hj2 b5 p5 => ?_⟩
      have sm2 : Smalls (10 ^ 18) [V.int 0, .int 1, .int 9, .int 98, .int ((10 : Int) ^ (18 : Int).toNat), .int d4] :=
        .cons (n := 0) rfl (by decide) (.cons (n := 1) rfl (by decide) (.cons (n := 9) rfl (by decide) (.cons (n := 98) rfl (by decide) (.cons (n := 10 ^ 18) rfl (by decide) (.cons (n := d4.toNat) (int_congr (by omega)) (by omega) .nil)))))
      obtain ⟨m, rfl, hm⟩ := sm2.at hj2
      refine ⟨2, _, rfl, rfl, (show 3 ≤ sizeLine from by decide), fun t ht => ?_⟩
      have em : V.int (2 + (m : Int)) = V.int ((2 + m : Nat) : Int) := int_congr (by omega)
      refine q _ (.run (.el n) (2 + m)) _ ((((b12.trans b3).trans b4).trans (.new hl4)).trans (b5.trans (.new ht))) ((p5.new ht).le (by omega)) (.ofRun (v2 := .int n) (.inl (.inl ?_)) (.ofEl n)) ?_
      · rw [upd_same]
        exact congrArg (fun z => some (HO.tup [V.str "run", V.int n, z])) em
      · unfold Ok
        refine ⟨by omega, Nat.le_trans (Nat.add_le_add_left hm 2) (by decide), rfl, ?_⟩
        unfold Ok
        exact ⟨rfl, hn⟩
theorem scTwins : FnScope ["level", "one", "other"] ["level"] (defScope sTwins) := ⟨rfl, rfl, rfl, by decide +kernel, rfl, by decide +kernel, by decide +kernel⟩
theorem ok_twins {f : Addr} {fd : FuncData} (F : Fun K "_law_twins" "_law_twins" sTwins f fd) (g : mg "_law_twins" = some (.ref f)) (b : Binds K fd ["level"] []) : ∀ m : Nat, FnOk P w K mg base CX0 (m + 1) f fd ["level"] (spTwins K m)
  | 0 => ⟨fun vs H Q E h => by obtain ⟨z, l, _, _, h, _⟩ := h; exact absurd h (Nat.not_lt_zero _), fun A outer s H args us vs Q E _ _ _ _ h => by obtain ⟨z, l, _, _, h, _⟩ := h; exact absurd h (Nat.not_lt_zero _)⟩
  | m + 1 => by
    have IH : FnOk P w K mg base CX0 (m + 1) f fd ["level"] (spTwins K m) := ok_twins F g b m
    refine F.ok scTwins (fun vs H Q E h => ?_) (fun cdv A outer s H vs Q E hr h => ?_)
    · obtain ⟨z, l, rfl, _⟩ := h
      rfl
    · obtain ⟨z, l, rfl, rfl, hl, q⟩ := h
      refine ⟨_, pss_cons (ps_if (pt_cmpR op_eq (pv 0) pe_int (nomark _)) (pss_one (ps_ret (pe_tup (pa_cons pe_int (pa_cons pe_int pa_nil))))) pss_nil)
        (pss_cons (ps_asg (pe_call IH hr (by rfl) g F.kp b .nil pass0 (pa_cons (pe_op op_sub (pv 0) pe_int) pa_nil)) (pg_tup rfl (pgs_cons (pg_name (i := 1) scTwins.nd rfl (.inl rfl)) (pgs_cons (pg_name (i := 2) scTwins.nd rfl (.inl rfl)) pgs_nil))))
        (pss_one (ps_ret (pe_tup (pa_cons (pe_tup (pa_cons pe_str (pa_cons (pe_tup (pa_cons (pv 1) (pa_cons (pv 2) pa_nil))) pa_nil))) (pa_cons (pe_tup (pa_cons pe_str (pa_cons (pe_tup (pa_cons (pv 2) (pa_cons (pv 1) pa_nil))) pa_nil))) pa_nil)))))), ?_⟩
      refine ⟨_, rfl, rfl, _, rfl, ite2 (fun e => ?_) (fun e => ?_)⟩
      · have e0 : (l : Int) = 0 := V.int.inj (of_decide_eq_true e)
        have e1 : l = 0 := by omega
        subst e1
        exact ⟨(show 2 ≤ sizeLine from by decide), fun p hp => q _ p _ _ (sameN hp) upd_same (.ofEl 5) (.ofEl 6)⟩
      · obtain ⟨j, rfl⟩ : ∃ j, l = j + 1 := ⟨l - 1, by
          have : l ≠ 0 := fun z => e (by rw [z]; rfl)
          omega⟩
        refine ⟨_, rfl, _, 1, rfl, rfl, _, j, rfl, by omega, by omega, fun H1 a v1 v2 s1 ha k1 k2 => ?_⟩
        refine ⟨a, [v1, v2], rfl, .inl (.inl ha), rfl, v1, [v2], rfl, v2, [], rfl, rfl, ?_⟩
        refine ⟨v1, rfl, v2, rfl, (show 2 ≤ sizeLine from by decide), fun p1 n1 => ⟨(show 2 ≤ sizeLine from by decide), fun p2 n2 => ⟨v2, rfl, v1, rfl, (show 2 ≤ sizeLine from by decide), fun p3 n3 => ⟨(show 2 ≤ sizeLine from by decide), fun p4 n4 => ⟨(show 2 ≤ sizeLine from by decide), fun p5 n5 => ?_⟩⟩⟩⟩⟩
        have g5 := sameN (o := .tup [.ref p2, .ref p4]) n5
        have g4 := (sameN (o := .tup [.str "block", .ref p3]) n4).trans g5
        have g3 := (sameN (o := .tup [v2, v1]) n3).trans g4
        have g2 := (sameN (o := .tup [.str "block", .ref p1]) n2).trans g3
        have g1 := (sameN (o := .tup [v1, v2]) n1).trans g2
        have t1 : Tups K H1 _ := .of g1
        refine q _ p5 (.ref p2) (.ref p4) (s1.trans g1) upd_same ?_ ?_
        · exact .ofBlk (.inl (.inl (g3 _ _ upd_same))) (.inl (.inl (g2 _ _ upd_same))) (.cons (k1.up t1) (.cons (k2.up t1) .nil))
        · exact .ofBlk (.inl (.inl (g5 _ _ upd_same))) (.inl (.inl (g4 _ _ upd_same))) (.cons (k2.up t1) (.cons (k1.up t1) .nil))
theorem scUnlike : FnScope ["node", "level", "one", "other"] ["node", "level"] (defScope sUnlike) := ⟨rfl, rfl, rfl, by decide +kernel, rfl, by decide +kernel, by decide +kernel⟩
theorem ok_unlike {f g t : Addr} {fd gd td : FuncData} {m : Nat} (F : Fun K "_law_unlike" "_law_unlike" sUnlike f fd) (W : Fun K "_law_twins" "_law_twins" sTwins t td) (gW : mg "_law_twins" = some (.ref t)) (bW : Binds K td ["level"] [])
    (G : Fun K "_law_ground" "_law_ground" sGround g gd) (gG : mg "_law_ground" = some (.ref g)) (bG : Binds K gd ["node"] []) (mi : mg "isinstance" = none) (mt : mg "tuple" = none) :
    FnOk P w K mg base CX0 (m + 2) f fd ["node", "level"] (spUnlike K m) := by
  have GW : FnOk P w K mg base CX0 (m + 1) t td ["level"] (spTwins K m) := ok_twins W gW bW m
  have GG : FnOk P w K mg base CX0 (m + 1) g gd ["node"] (spGround K) := ok_ground G mi mt
  refine F.ok scUnlike (fun vs H Q E h => ?_) (fun cdv A outer s H vs Q E hr h => ?_)
  · obtain ⟨v, n, l, rfl, _⟩ := h
    rfl
  · obtain ⟨v, n, l, rfl, hl, h20, hn, okn, q⟩ := h
    refine ⟨_, pss_cons (ps_asg (pe_call GW hr (by rfl) gW W.kp bW .nil pass0 (pa_cons (pv 1) pa_nil)) (pg_tup rfl (pgs_cons (pg_name (i := 2) scUnlike.nd rfl (.inl rfl)) (pgs_cons (pg_name (i := 3) scUnlike.nd rfl (.inl rfl)) pgs_nil))))
      (pss_one (ps_ret (pe_ifExp (pt_cmpR (op_neD hr.units) (pv 2) (pe_call GG hr (by rfl) gG G.kp bG .nil pass0 (pa_cons (pv 0) pa_nil)) (nomark _)) (pv 2) (pv 3)))), ?_⟩
    refine ⟨_, rfl, _, l, rfl, rfl, hl, fun H1 a v1 v2 s1 ha k1 k2 => ?_⟩
    refine ⟨a, [v1, v2], rfl, .inl (.inl ha), rfl, v1, [v2], rfl, v2, [], rfl, rfl, ?_⟩
    have hn1 : NdV K H1 v n := hn.up (.of s1)
    obtain ⟨o1, o2, o3, o4, o5⟩ := tw_ok l
    refine ⟨v1, rfl, v, rfl, v, n, rfl, hn1, fun v' hv' => ⟨_, _, k1, hv', shaped_dat o1 h20, shaped_dat okn.base.1 h20, _, rfl, ?_⟩⟩
    by_cases e : (tw l).1 = n.base
    · rw [eqv_yes e]
      refine ⟨v2, rfl, q _ _ _ s1 k2 o2 ?_⟩
      rw [base_of_no o5, ← e]
      exact o3.symm
    · rw [eqv_no e]
      refine ⟨v1, rfl, q _ _ _ s1 k1 o1 ?_⟩
      rw [base_of_no o4]
      exact e
end
section
variable {P : Program} {w : World} {K : PySem.W.Frag} {mg : Str → Option Value} {base : Heap}
theorem scRow : FnScope ["pot", "level", "many", "found", "node"] ["pot", "level", "many"] (defScope sRow) := ⟨rfl, rfl, rfl, by decide +kernel, rfl, by decide +kernel, by decide +kernel⟩
theorem scBlock : FnScope ["pot", "level", "parts", "node"] ["pot", "level"] (defScope sBlock) := ⟨rfl, rfl, rfl, by decide +kernel, rfl, by decide +kernel, by decide +kernel⟩
/-- what the names of the drawing defs hold -/
structure GenF (K : PySem.W.Frag) (mg : Str → Option Value) (fT fO fG fL fR fB fW fU : Addr) (dT dO dG dL dR dB dW dU : FuncData) : Prop where
  T : Fun K "_law_take" "_law_take" sTake fT dT
  O : Fun K "_law_of" "_law_of" sOf fO dO
  G : Fun K "_law_ground" "_law_ground" sGround fG dG
  L : Fun K "_law_leaf" "_law_leaf" sLeaf fL dL
  R : Fun K "_law_row" "_law_row" sRow fR dR
  B : Fun K "_law_block" "_law_block" sBlock fB dB
  W : Fun K "_law_twins" "_law_twins" sTwins fW dW
  U : Fun K "_law_unlike" "_law_unlike" sUnlike fU dU
  gT : mg "_law_take" = some (.ref fT)
  gO : mg "_law_of" = some (.ref fO)
  gG : mg "_law_ground" = some (.ref fG)
  gL : mg "_law_leaf" = some (.ref fL)
  gR : mg "_law_row" = some (.ref fR)
  gB : mg "_law_block" = some (.ref fB)
  gW : mg "_law_twins" = some (.ref fW)
  gU : mg "_law_unlike" = some (.ref fU)
  bT : Binds K dT ["pot", "bound"] []
  bO : Binds K dO ["pot", "some"] []
  bG : Binds K dG ["node"] []
  bL : Binds K dL ["pot"] []
  bR : Binds K dR ["pot", "level", "many"] []
  bB : Binds K dB ["pot", "level"] []
  bW : Binds K dW ["level"] []
  bU : Binds K dU ["node", "level"] []
  len : mg "len" = none
  tuple : mg "tuple" = none
  isinstance : mg "isinstance" = none
variable {fT fO fG fL fR fB fW fU : Addr} {dT dO dG dL dR dB dW dU : FuncData}
theorem ok_block (X : GenF K mg fT fO fG fL fR fB fW fU dT dO dG dL dR dB dW dU) {m k : Nat} (hk : 3 ≤ k) (GR : FnOk P w K mg base CX0 k fR dR ["pot", "level", "many"] (spRow K m)) : FnOk P w K mg base CX0 (k + 1) fB dB ["pot", "level"] (spBlock K (m + 1)) := by
  have GT : FnOk P w K mg base CX0 1 fT dT ["pot", "bound"] spTake := ok_take X.T
  have GO : FnOk P w K mg base CX0 2 fO dO ["pot", "some"] spOf := ok_of X.O X.T X.gT X.bT X.len
  refine X.B.ok scBlock (fun vs H Q E h => ?_) (fun cdv A outer s H vs Q E hr h => ?_)
  · obtain ⟨p, l, c, rfl, _⟩ := h
    rfl
  · obtain ⟨p, l, c, rfl, l1, l2, l3, hp, hc, q⟩ := h
    have h1 := hr.mono (j := 1) (by omega)
    have h2 := hr.mono (j := 2) (by omega)
    refine ⟨_, pss_cons (ps_set (i := 2) scBlock.nd rfl (.inl rfl) (pe_call GR hr (by rfl) X.gR X.R.kp X.bR .nil pass0 (pa_cons (pv 0) (pa_cons (pe_op op_sub (pv 1) pe_int)
          (pa_cons (pe_op op_add pe_int (pe_call GT h1 (by rfl) X.gT X.T.kp X.bT .nil pass0 (pa_cons (pv 0) (pa_cons pe_int pa_nil)))) pa_nil)))))
      (pss_cons (ps_set (i := 3) scBlock.nd rfl (.inl rfl) (pe_tup (pa_cons pe_str (pa_cons (pe_callTy call_tuple_of (by rfl) X.tuple PyProof.Rows.boot_tuple (pa_cons (pv 2) pa_nil)) pa_nil))))
      (pss_cons (ps_if (pt_cmpR op_gt (pe_call GT h1 (by rfl) X.gT X.T.kp X.bT .nil pass0 (pa_cons (pv 0) (pa_cons pe_int pa_nil))) pe_int (nomark _)) (pss_one (ps_ret (pv 3))) pss_nil)
      (pss_one (ps_ret (pe_tup (pa_cons pe_str (pa_cons (pv 3) (pa_cons (pe_op op_add pe_int (pe_call GO h2 (by rfl) X.gO X.O.kp X.bO .nil pass0 (pa_cons (pv 0) (pa_cons (pe_lst (pa_cons pe_int (pa_cons pe_int (pa_cons pe_int
        (pa_cons (pe_op op_pow pe_int pe_int) pa_nil))))) pa_nil)))) pa_nil)))))))), ?_⟩
    obtain ⟨j, rfl⟩ : ∃ j, l = j + 1 := ⟨l - 1, by omega⟩
    have cj : cost (j + 1) = 4 * cost j := rfl
    have cp := cost_pos j
    refine ⟨.ref p, rfl, _, rfl, _, 1, rfl, rfl, .ref p, rfl, p, 2, c, rfl, hp, by omega, by decide, by decide +kernel, fun d H1 d0 d1 b1 p1 => ⟨2, d, rfl, rfl, ?_⟩⟩
    have ev : V.int (2 + d) = V.int ((2 + d.toNat : Nat) : Int) := int_congr (by omega)
    refine ⟨p, _, j, 2 + d.toNat, _, congrArg (fun z => [V.ref p, V.int ((j + 1 : Nat) - 1 : Int), z]) ev, by omega, by omega, by omega, by omega, p1, by omega, fun H2 a vs' ns b2 na ha hn hok hu hl p2 => ?_⟩
    have mul : (2 + d.toNat) * cost j ≤ 3 * cost j := Nat.mul_le_mul_right _ (by omega)
    refine ⟨.ref a, rfl, a, _, rfl, .inl ⟨.inl (.inl ha), fun t1 n1 => ⟨(show 2 ≤ sizeLine from by decide), fun t2 n2 => ?_⟩⟩⟩
    have g2 := sameN (o := .tup [.str "block", .ref t1]) n2
    have g1 := (sameN (o := .tup vs') n1).trans g2
    have b12 := ((b1.trans b2).trans (But.new (o := .tup vs') n1)).trans (But.new (o := .tup [.str "block", .ref t1]) n2)
    have nb : NdV K (upd (upd H2 t1 (.tup vs')) t2 (.tup [.str "block", .ref t1])) (.ref t2) (.blk ns) := NdV.ofBlk (.inl (.inl upd_same)) (.inl (.inl (g2 _ _ upd_same))) (hn.up (.of g1))
    have okb : Ok (.blk ns) (j + 1) := by
      unfold Ok
      exact ⟨by omega, by omega, by omega, hok, hu⟩
    have p2' := (p2.new (o := .tup vs') n1).new (o := .tup [.str "block", .ref t1]) n2
    refine ⟨.ref p, rfl, p, 5, _, rfl, p2', by omega, by decide, by decide +kernel, fun d2 H3 _ _ b3 p3 => ⟨d2, 0, rfl, rfl, _, rfl, ite2 (fun _ => ?_) (fun _ => ?_)⟩⟩
    · exact ⟨_, rfl, q _ _ _ (b12.trans b3) (nb.up (b3.tupsP p2')) okb (p3.le (by omega))⟩
    · refine ⟨_, rfl, .ref p, rfl, 10, 18, rfl, rfl, ⟨by decide, by decide, by decide⟩, (show 4 ≤ sizeLine from by decide), fun l4 hl4 => ?_⟩
      refine ⟨p, l4, _, _, rfl, p3.new hl4, by omega, p3.ne hl4, upd_same, List.cons_ne_nil _ _, (show 4 ≤ 1000 from by decide), fun j2 x2 H5 hj2 b5 p5 => ?_⟩
      have sm2 : Smalls (10 ^ 18) [V.int 0, .int 1, .int 8, .int ((10 : Int) ^ (18 : Int).toNat)] :=
        .cons (n := 0) rfl (by decide) (.cons (n := 1) rfl (by decide) (.cons (n := 8) rfl (by decide) (.cons (n := 10 ^ 18) rfl (by decide) .nil)))
      obtain ⟨mm, rfl, hm⟩ := sm2.at hj2
      refine ⟨2, _, rfl, rfl, (show 3 ≤ sizeLine from by decide), fun t ht => ?_⟩
      have em : V.int (2 + (mm : Int)) = V.int ((2 + mm : Nat) : Int) := int_congr (by omega)
      have nb3 := nb.up (b3.tupsP p2')
      have nb5 := (nb3.up (.of (sameN hl4))).up (b5.tupsP (p3.new hl4))
      refine q _ _ (.run (.blk ns) (2 + mm)) (((b12.trans b3).trans (.new hl4)).trans (b5.trans (.new ht))) (.ofRun (v2 := .ref t2) (.inl (.inl ?_)) (nb5.up (.of (sameN ht)))) ?_ ((p5.new ht).le (by omega))
      · rw [upd_same]
        exact congrArg (fun z => some (HO.tup [V.str "run", V.ref t2, z])) em
      · unfold Ok
        exact ⟨by omega, Nat.le_trans (Nat.add_le_add_left hm 2) (by decide), rfl, okb⟩
theorem ok_row (X : GenF K mg fT fO fG fL fR fB fW fU dT dO dG dL dR dB dW dU) {m k : Nat} (hk : m + 3 ≤ k) (hk4 : 4 ≤ k) (GB : FnOk P w K mg base CX0 k fB dB ["pot", "level"] (spBlock K (m + 1))) :
    FnOk P w K mg base CX0 (k + 1) fR dR ["pot", "level", "many"] (spRow K (m + 1)) := by
  have GL : FnOk P w K mg base CX0 3 fL dL ["pot"] (spLeaf K) := ok_leaf X.L X.T X.gT X.bT X.O X.gO X.bO X.len
  have GG : FnOk P w K mg base CX0 1 fG dG ["node"] (spGround K) := ok_ground X.G X.isinstance X.tuple
  have GU : FnOk P w K mg base CX0 (m + 3) fU dU ["node", "level"] (spUnlike K (m + 1)) := ok_unlike X.U X.W X.gW X.bW X.G X.gG X.bG X.isinstance X.tuple
  refine X.R.ok scRow (fun vs H Q E h => ?_) (fun cdv A outer s H vs Q E hr h => ?_)
  · obtain ⟨p, z, l, many, c, rfl, _⟩ := h
    rfl
  · obtain ⟨p, z, l, many, c, rfl, rfl, l2, l3, hm, hp, hc, q⟩ := h
    have r1 := hr.mono (j := 1) (by omega)
    have r3 := hr.mono (j := 3) (by omega)
    have rU := hr.mono (j := m + 3) (by omega)
    refine ⟨_, pss_cons (ps_set (i := 3) scRow.nd rfl (.inl rfl) (pe_lst pa_nil))
      (pss_cons (ps_while PassesOwn.never (pt_cmpR op_lt (pe_callB call_len_seq (by rfl) X.len PySem.boot_len (pa_cons (pv 3) pa_nil)) (pv 2) (nomark _))
        (pss_cons (ps_set (i := 4) scRow.nd rfl (.inl rfl) (pe_ifExp (pt_cmpR op_eq (pv 1) pe_int (nomark _)) (pe_call GL r3 (by rfl) X.gL X.L.kp X.bL .nil pass0 (pa_cons (pv 0) pa_nil)) (pe_call GB hr (by rfl) X.gB X.B.kp X.bB .nil pass0 (pa_cons (pv 0) (pa_cons (pv 1) pa_nil)))))
        (pss_cons (ps_if (PW.pt (pw_and (pt_cmpR (op_neD hr.units) (pv 3) (pe_lst pa_nil) (nomark _)) (pw_and1 (pt_cmpR (op_eqD hr.units) (pe_call GG r1 (by rfl) X.gG X.G.kp X.bG .nil pass0 (pa_cons (pe_ix ix_list (pv 3) (pe_un un_neg pe_int) (fun _ _ => rfl)) pa_nil))
            (pe_call GG r1 (by rfl) X.gG X.G.kp X.bG .nil pass0 (pa_cons (pv 4) pa_nil)) (nomark _))))) (pss_one (ps_set (i := 4) scRow.nd rfl (.inl rfl) (pe_ix ix_list (pv 3) pe_int (fun _ _ => rfl)))) pss_nil)
        (pss_cons (ps_if (PW.pt (pw_and (pt_cmpR (op_neD hr.units) (pv 3) (pe_lst pa_nil) (nomark _)) (pw_and1 (pt_cmpR (op_eqD hr.units) (pe_call GG r1 (by rfl) X.gG X.G.kp X.bG .nil pass0 (pa_cons (pe_ix ix_list (pv 3) (pe_un un_neg pe_int) (fun _ _ => rfl)) pa_nil))
            (pe_call GG r1 (by rfl) X.gG X.G.kp X.bG .nil pass0 (pa_cons (pv 4) pa_nil)) (nomark _))))) (pss_one (ps_set (i := 4) scRow.nd rfl (.inl rfl) (pe_call GU rU (by rfl) X.gU X.U.kp X.bU .nil pass0 (pa_cons (pe_ix ix_list (pv 3) (pe_un un_neg pe_int) (fun _ _ => rfl)) (pa_cons (pv 1) pa_nil))))) pss_nil)
        (pss_one (ps_expr (pe_bm PySem.F.plainAttrs_list PySem.F.slot_list_append PySem.F.type_list_append mt_append (pv 3) (pa_cons (pv 4) pa_nil)))))))) 
      (pss_one (ps_ret (pv 3)))), ?_⟩
    refine ⟨(show 0 ≤ sizeLine from by decide), fun F hF => ?_⟩
    have nFp : F ≠ p := hp.ne hF
    refine ⟨fun m' σ H' => ∃ vs' ns y4, m' = many - ns.length ∧ ns.length ≤ many ∧ σ = [some (.ref p), some (.int l), some (.int many), some (.ref F), y4] ∧ H' F = some (.lst vs') ∧ NdsV K H' vs' ns ∧ OkAll ns l ∧ Unb ns ∧ But p H H' ∧ Pot H' p (c + ns.length * cost l),
      ⟨many, [], [], none, rfl, Nat.zero_le _, rfl, upd_same, .nil, by unfold OkAll; trivial, trivial, .new hF, (hp.new hF).le (by simp)⟩, ?_⟩
    rintro m' σ H1 ⟨vs', ns, y4, rfl, hle, rfl, e1, e2, e3, e4, e5, e6⟩
    refine ⟨.ref F, rfl, F, vs', rfl, .inl (.inl (.inl e1)), _, rfl, _, _, rfl, rfl, _, rfl, ite2 (fun e => ?_) (fun e => ?_)⟩
    · have hlt : ns.length < many := by
        have : ((vs'.length : Nat) : Int) < (many : Int) := of_decide_eq_true e
        rw [e2.len] at this
        omega
      have mul : ns.length * cost l ≤ 10 * cost l := Nat.mul_le_mul_right _ (by omega)
      have cp := cost_pos l
      refine ⟨fun σ' H' => ∃ vs' ns' y4, ns'.length = ns.length + 1 ∧ σ' = [some (.ref p), some (.int l), some (.int many), some (.ref F), y4] ∧ H' F = some (.lst vs') ∧ NdsV K H' vs' ns' ∧ OkAll ns' l ∧ Unb ns' ∧ But p H H' ∧ Pot H' p (c + ns'.length * cost l),
        fun σ' H' hN => ?_, ?_⟩
      · obtain ⟨v2, n2, y, k1, k2, k3⟩ := hN
        exact ⟨many - n2.length, by omega, v2, n2, y, rfl, by omega, k2, k3⟩
      -- node = leaf or block
      refine if_any (fun b H' => H1 = H' ∧ (b = true ↔ l = 0)) (fun b H' hS => ?_) (fun R hR => ?_)
      · obtain ⟨rfl, hb⟩ := hS
        refine joinIf (fun v H' => ∃ n, NdV K H' v n ∧ Ok n l ∧ But p H1 H' ∧ Pot H' p (c + ns.length * cost l + cost l)) (fun v H2 hS => ?_) (fun ey R hR => ?_) (fun en R hR => ?_)
        · obtain ⟨n, hn, okn, b2, p2⟩ := hS
          have f2 := b2.at nFp e1
          have d2 : NdsV K H2 vs' ns := e2.up (b2.tupsP e6)
          have bH2 := e5.trans b2
          dsimp only [gName, tSeq]
          refine ifs_any (fun b H' => Same H2 H' ∧ (b = true → ns ≠ []) ∧ (b = false → ∀ x, ns.getLast? = some x → x.base ≠ n.base)) (fun b H3 hS => ?_) (fun R hR => ?_)
          · obtain ⟨s3, nb1, nb2⟩ := hS
            refine joinS (fun σ' H' => ∃ v n', σ' = [some (.ref p), some (.int l), some (.int many), some (.ref F), some v] ∧ NdV K H' v n' ∧ Ok n' l ∧ Same H2 H') (fun σ4 H4 hS4 => ?_) (fun eb N hN => ?_) (fun eb N hN => ?_)
            · obtain ⟨v4, n4, rfl, hn4, ok4, s4⟩ := hS4
              have f4 := s4 _ _ f2
              have d4 : NdsV K H4 vs' ns := d2.up (.of s4)
              dsimp only [tSeq]
              refine ifs_any (fun b H' => Same H2 H' ∧ NdV K H' v4 n4 ∧ (b = true → ns ≠ []) ∧ (b = false → ∀ x, ns.getLast? = some x → x.base ≠ n4.base)) (fun b H5 hS => ?_) (fun R hR => ?_)
              · obtain ⟨s5, hn5, nb3, nb4⟩ := hS
                refine joinS (fun σ' H' => ∃ v n', σ' = [some (.ref p), some (.int l), some (.int many), some (.ref F), some v] ∧ NdV K H' v n' ∧ Ok n' l ∧ Same H2 H' ∧ ∀ x, ns.getLast? = some x → x.base ≠ n'.base) (fun σ6 H6 hS6 => ?_) (fun eb N hN => ?_) (fun eb N hN => ?_)
                · obtain ⟨v6, n6, rfl, hn6, ok6, s6, un6⟩ := hS6
                  have f6 := s6 _ _ f2
                  have d6 : NdsV K H6 vs' ns := d2.up (.of s6)
                  refine ⟨.ref F, rfl, .inl ⟨rfl, _, .inl (.inl f6)⟩, v6, rfl, F, _, _, rfl, rfl, f6, ?_, vs' ++ [v6], ns ++ [n6], some v6, by rw [List.length_append]; rfl, rfl, upd_same, ?_, ?_, unb_app e4 un6, (bH2.trans (Same.but s6)).wr hF, ?_⟩
                  · rw [d6.len]
                    exact line5 (by omega)
                  · have t6 : Tups K H6 (upd H6 F (.lst (vs' ++ [v6]))) := (But.set (p := F)).tups f6
                    exact (d6.up t6).app (.one (hn6.up t6))
                  · exact OkAll.of fun x hx => by
                      rcases List.mem_append.mp hx with hx | hx
                      · exact e3.mem x hx
                      · rw [List.mem_singleton.mp hx]
                        exact ok6
                  · obtain ⟨o, ho, po⟩ := p2
                    refine Pot.oth ⟨o, s6 _ _ ho, po.le ?_⟩ nFp.symm
                    rw [List.length_append, Nat.add_mul]
                    simp
                    omega
                · have hne := nb3 eb
                  rcases List.eq_nil_or_concat ns with rfl | ⟨init, z, rfl⟩
                  · exact absurd rfl hne
                  · rw [List.concat_eq_append] at *
                    have f5 := s5 _ _ f2
                    have d5 : NdsV K H5 vs' (init ++ [z]) := d2.up (.of s5)
                    obtain ⟨u, eu, hz⟩ := d5.last
                    have okz : Ok z l := e3.mem z (by simp)
                    refine ⟨.ref F, rfl, 1, rfl, F, _, -1, u, rfl, rfl, .inl (.inl f5), eu, _, rfl, u, z, l, rfl, l2, l3, hz, okz, fun H' v' n' s' hn' ok' un' => hN _ _ ⟨v', n', rfl, hn', ok', s5.trans s', fun x hx => ?_⟩⟩
                    have : x = z := by
                      rw [List.getLast?_append] at hx
                      simpa using hx.symm
                    rw [this]
                    exact un'.symm
                · exact hN _ _ ⟨v4, n4, rfl, hn5, ok4, s5, nb4 eb⟩
              · exact (by
            refine ⟨.ref F, rfl, (show 0 ≤ sizeLine from by decide), fun l9 hl9 => ⟨_, _, .lst (.inl (.inl ?_)) (d4.up (.of (sameN hl9))), .lst (.inl (.inl upd_same)) .nil, (shaped_all e3 l3).1, shaped_nil, _, rfl, ?_⟩⟩
            · rw [upd_ne (ne_of_none f4 hl9)]
              exact f4
            · rw [eqv_emptyN]
              rcases List.eq_nil_or_concat ns with rfl | ⟨init, z, rfl⟩
              · exact hR _ _ ⟨s4.trans (sameN hl9), hn4.up (.of (sameN hl9)), (fun z => nomatch z), fun _ x hx => nomatch hx⟩
              · rw [List.concat_eq_append] at *
                have z0 : (init ++ [z]).isEmpty = false := by simp
                rw [z0]
                have s9 := sameN (o := .lst []) hl9
                have d9 : NdsV K _ vs' (init ++ [z]) := d4.up (.of s9)
                obtain ⟨u, eu, hz⟩ := d9.last
                have okz : Ok z l := e3.mem z (by simp)
                refine ⟨.ref F, rfl, 1, rfl, F, _, -1, u, rfl, rfl, .inl (.inl (s9 _ _ f4)), eu, u, z, rfl, hz, fun w1 hw1 => ⟨_, rfl, v4, n4, rfl, hn4.up (.of s9), fun w2 hw2 => ⟨_, _, hw1, hw2, shaped_dat okz.base.1 l3, shaped_dat ok4.base.1 l3, _, rfl, hR _ _ ⟨s4.trans s9, hn4.up (.of s9), fun _ => by simp, fun eb x hx => by
                  have : x = z := by
                    rw [List.getLast?_append] at hx
                    simpa using hx.symm
                  rw [this]
                  intro eq
                  rw [eqv_yes eq] at eb
                  cases eb⟩⟩⟩⟩)
            · have hne := nb1 eb
              obtain ⟨x0, hx0⟩ := get_of (l := ns) (i := 0) (List.length_pos_iff.mpr hne)
              have f3 := s3 _ _ f2
              have d3 : NdsV K H3 vs' ns := d2.up (.of s3)
              obtain ⟨u, hu, k⟩ := d3.at hx0
              refine ⟨.ref F, rfl, F, _, 0, u, rfl, rfl, .inl (.inl f3), atI_nat (j := 0) hu, hN _ _ ⟨u, x0, rfl, k, e3.mem x0 (List.mem_of_getElem? hx0), s3⟩⟩
            · exact hN _ _ ⟨v, n, rfl, hn.up (.of s3), okn, s3⟩
          · exact (by
            refine ⟨.ref F, rfl, (show 0 ≤ sizeLine from by decide), fun l9 hl9 => ⟨_, _, .lst (.inl (.inl ?_)) (d2.up (.of (sameN hl9))), .lst (.inl (.inl upd_same)) .nil, (shaped_all e3 l3).1, shaped_nil, _, rfl, ?_⟩⟩
            · rw [upd_ne (ne_of_none f2 hl9)]
              exact f2
            · rw [eqv_emptyN]
              rcases List.eq_nil_or_concat ns with rfl | ⟨init, z, rfl⟩
              · exact hR _ _ ⟨sameN hl9, (fun z => nomatch z), fun _ x hx => nomatch hx⟩
              · rw [List.concat_eq_append] at *
                have z0 : (init ++ [z]).isEmpty = false := by simp
                rw [z0]
                have s9 := sameN (o := .lst []) hl9
                have d9 : NdsV K _ vs' (init ++ [z]) := d2.up (.of s9)
                obtain ⟨u, eu, hz⟩ := d9.last
                have okz : Ok z l := e3.mem z (by simp)
                refine ⟨.ref F, rfl, 1, rfl, F, _, -1, u, rfl, rfl, .inl (.inl (s9 _ _ f2)), eu, u, z, rfl, hz, fun w1 hw1 => ⟨_, rfl, v, n, rfl, hn.up (.of s9), fun w2 hw2 => ⟨_, _, hw1, hw2, shaped_dat okz.base.1 l3, shaped_dat okn.base.1 l3, _, rfl, hR _ _ ⟨s9, fun _ => by simp, fun eb x hx => by
                  have : x = z := by
                    rw [List.getLast?_append] at hx
                    simpa using hx.symm
                  rw [this]
                  intro eq
                  rw [eqv_yes eq] at eb
                  cases eb⟩⟩⟩⟩)
        · have l0 := hb.mp ey
          subst l0
          refine ⟨.ref p, rfl, p, _, rfl, e6, by omega, fun v n H' b' p' hn okn => hR _ _ ⟨n, hn, okn, b', p'.le (by omega)⟩⟩
        · have l0 : l ≠ 0 := fun z => by
            rw [hb.mpr z] at en
            cases en
          refine ⟨.ref p, rfl, _, rfl, p, l, _, rfl, by omega, l2, l3, e6, by omega, fun H' v n b' hn okn p' => hR _ _ ⟨n, hn, okn, b', p'⟩⟩
      · refine ⟨_, rfl, rfl, _, rfl, hR _ _ ⟨rfl, ?_⟩⟩
        rw [decide_eq_true_iff]
        constructor
        · intro z
          have := V.int.inj z
          omega
        · rintro rfl
          rfl
    · have heq : ns.length = many := by
        have : ¬ ((vs'.length : Nat) : Int) < (many : Int) := fun z => e (decide_eq_true z)
        rw [e2.len] at this
        omega
      rw [heq] at e6
      exact ⟨_, rfl, q _ F vs' ns e5 hF e1 e2 e3 e4 heq e6⟩
end
section
variable {P : Program} {w : World} {K : PySem.W.Frag} {mg : Str → Option Value} {base : Heap}
variable {fT fO fG fL fR fB fW fU : Addr} {dT dO dG dL dR dB dW dU : FuncData}
theorem gen_row (X : GenF K mg fT fO fG fL fR fB fW fU dT dO dG dL dR dB dW dU) : ∀ m : Nat, FnOk P w K mg base CX0 (2 * m + 3) fR dR ["pot", "level", "many"] (spRow K m)
  | 0 => ⟨fun vs H Q E h => by obtain ⟨p, z, l, many, c, _, _, h, _⟩ := h; exact absurd h (Nat.not_lt_zero _), fun A outer s H args us vs Q E _ _ _ _ h => by obtain ⟨p, z, l, many, c, _, _, h, _⟩ := h; exact absurd h (Nat.not_lt_zero _)⟩
  | m + 1 => ok_row X (by omega) (by omega) (ok_block X (by omega) (gen_row X m))
end
section
variable {P : Program} {w : World} {K : PySem.W.Frag} {mg : Str → Option Value} {base : Heap}
variable {fT fO fG fL fR fB fW fU : Addr} {dT dO dG dL dR dB dW dU : FuncData}
theorem scPool : FnScope ["pot", "level", "found", "node", "one"] ["pot", "level"] (defScope sPool) := ⟨rfl, rfl, rfl, by decide +kernel, rfl, by decide +kernel, by decide +kernel⟩
/-- unlike bases, everywhere -/
def spPool (K : PySem.W.Frag) (m : Nat) : Sp := fun vs H Q _ => ∃ (p : Addr) (z : Int) (l c : Nat), vs = [.ref p, .int z] ∧ z = l ∧ l < m ∧ l ≤ 20 ∧ Pot H p c ∧ c + 20 * cost l < 900000 ∧
  ∀ H' a vs' ns, But p H H' → H a = none → H' a = some (.lst vs') → NdsV K H' vs' ns → OkAll ns l → (ns.map Nd.base).Nodup → 2 ≤ ns.length → ns.length ≤ 9 → Pot H' p (c + 10 * cost l) → Q (.ref a) H'
theorem ok_pool (X : GenF K mg fT fO fG fL fR fB fW fU dT dO dG dL dR dB dW dU) {f : Addr} {fd : FuncData} {m : Nat} (F : Fun K "_law_pool" "_law_pool" sPool f fd) (mlist : mg "list" = none) (many : mg "any" = none) :
    FnOk P w K mg base CX0 (2 * m + 4) f fd ["pot", "level"] (spPool K m) := by
  have GR : FnOk P w K mg base CX0 (2 * m + 3) fR dR ["pot", "level", "many"] (spRow K m) := gen_row X m
  have GW : FnOk P w K mg base CX0 (m + 1) fW dW ["level"] (spTwins K m) := ok_twins X.W X.gW X.bW m
  have GG : FnOk P w K mg base CX0 1 fG dG ["node"] (spGround K) := ok_ground X.G X.isinstance X.tuple
  refine F.ok scPool (fun vs H Q E h => ?_) (fun cdv A outer s H vs Q E hr h => ?_)
  · obtain ⟨p, z, l, c, rfl, _⟩ := h
    rfl
  · obtain ⟨p, z, l, c, rfl, rfl, l2, l3, hp, hc, q⟩ := h
    have r1 := hr.mono (j := 1) (by omega)
    have rW := hr.mono (j := m + 1) (by omega)
    refine ⟨_, pss_cons (ps_set (i := 2) scPool.nd rfl (.inl rfl) (pe_lst pa_nil))
      (pss_cons (ps_for PassesOwn.never rfl (pi_list (pe_op op_cat (pe_call GR hr (by rfl) X.gR X.R.kp X.bR .nil pass0 (pa_cons (pv 0) (pa_cons (pv 1) (pa_cons pe_int pa_nil))))
          (pe_callTy call_list_of (by rfl) mlist PyProof.Rows.boot_list (pa_cons (pe_call GW rW (by rfl) X.gW X.W.kp X.bW .nil pass0 (pa_cons (pv 1) pa_nil)) pa_nil)))) (pg_name (i := 3) scPool.nd rfl (.inr rfl))
        (pss_one (ps_if (pt_not (pt_val (pe_callB (cr_any rfl) (by rfl) many PyProof.Rows.boot_any (pa_cons
            (pe_lc (own := [("one", 4)]) (g := gName 4) (tt := tYes) (te := tOp (rEqD K) (tCall (spGround K) [] E0 (tCons (tVar 3) tNil)) (tCall (spGround K) [] E0 (tCons (tVar 4) tNil))) rfl scPool.nd (pi_list (pv 2)) (blkOk_by (N := ["pot", "level", "found", "node", "one"]) (sc := defScope sPool) (by decide +kernel))
              (fun _ _ _ _ _ => pg_name (i := 4) scPool.nd rfl (Or.inl rfl)) (fun _ _ _ _ _ => pts_nil)
              (fun _ _ _ _ _ => pe_cmpR (op_eqD hr.units) (pe_call GG r1 (by rfl) X.gG X.G.kp X.bG .nil pass0 (pa_cons (pv 3) pa_nil)) (pe_call GG r1 (by rfl) X.gG X.G.kp X.bG .nil pass0 (pa_cons (pv 4) pa_nil)) (nomark _))) pa_nil))))
          (pss_one (ps_expr (pe_bm PySem.F.plainAttrs_list PySem.F.slot_list_append PySem.F.type_list_append mt_append (pv 2) (pa_cons (pv 3) pa_nil)))) pss_nil)))
      (pss_one (ps_ret (pv 2)))), ?_⟩
    refine ⟨(show 0 ≤ sizeLine from by decide), fun F0 hF => ?_⟩
    have nFp : F0 ≠ p := hp.ne hF
    refine ⟨.ref p, rfl, _, rfl, p, l, l, 7, c, rfl, rfl, l2, l3, by omega, hp.new hF, by omega, fun H1 a vs1 ns1 b1 na1 ha1 d1 ok1 un1 len1 p1 => ?_⟩
    have f1 := b1.at nFp upd_same
    refine ⟨_, rfl, l, l, rfl, rfl, l2, fun H2 t v1 v2 s2 ht k1 k2 => ⟨t, _, rfl, .inr (.inl (.inl ht)), fun l3' hl3' => ?_⟩⟩
    have f2 := s2 _ _ f1
    have a2 := s2 _ _ ha1
    have s3 := sameN (o := .lst [v1, v2]) hl3'
    refine ⟨a, l3', vs1, [v1, v2], rfl, rfl, s3 _ _ a2, upd_same, ?_, fun LL nLL => ⟨LL, rfl, ⟨_, .inl (.inl upd_same)⟩, ?_⟩⟩
    · rw [d1.len, len1]
      exact (show 7 + 2 ≤ sizeLine from by decide)
    have s4 := sameN (o := .lst (vs1 ++ [v1, v2])) nLL
    have s24 := s3.trans s4
    have f4 := s24 _ _ f2
    obtain ⟨o1, o2, o3, o4, o5⟩ := tw_ok l
    have dAll : NdsV K (upd (upd H2 l3' (.lst [v1, v2])) LL (.lst (vs1 ++ [v1, v2]))) (vs1 ++ [v1, v2]) (ns1 ++ [(tw l).1, (tw l).2]) :=
      (d1.up (.of (s2.trans s24))).app (.cons (k1.up (.of s24)) (.cons (k2.up (.of s24)) .nil))
    have hLL : (upd (upd H2 l3' (.lst [v1, v2])) LL (.lst (vs1 ++ [v1, v2]))) LL = some (.lst (vs1 ++ [v1, v2])) := upd_same
    have b4 : But p H (upd (upd H2 l3' (.lst [v1, v2])) LL (.lst (vs1 ++ [v1, v2]))) := ((But.new hF).trans b1).trans (Same.but (s2.trans s24))
    have p4 : Pot (upd (upd H2 l3' (.lst [v1, v2])) LL (.lst (vs1 ++ [v1, v2]))) p (c + 7 * cost l) := by
      obtain ⟨o, ho, po⟩ := p1
      exact ⟨o, s24 _ _ (s2 _ _ ho), po⟩
    have nLF : LL ≠ F0 := fun z => by
      rw [z, s3 _ _ f2] at nLL
      cases nLL
    generalize upd (upd H2 l3' (.lst [v1, v2])) LL (.lst (vs1 ++ [v1, v2])) = H4 at dAll hLL b4 p4 f4 ⊢
    have okAll : OkAll (ns1 ++ [(tw l).1, (tw l).2]) l := OkAll.of fun n hn => by
      rcases List.mem_append.mp hn with hn | hn
      · exact ok1.mem n hn
      rcases List.mem_cons.mp hn with rfl | hn
      · exact o1
      · rw [List.mem_singleton.mp hn]
        exact o2
    have lenAll : (vs1 ++ [v1, v2]).length = 9 := by
      rw [List.length_append, d1.len, len1]
      rfl
    refine for_list (xs := vs1 ++ [v1, v2]) (fun i σ H' => ∃ y3 y4 vs' fs, σ = [some (.ref p), some (.int l), some (.ref F0), y3, y4] ∧ H' F0 = some (.lst vs') ∧ NdsV K H' vs' fs ∧ OkAll fs l ∧ (fs.map Nd.base).Nodup ∧ fs.length ≤ i ∧
        (∀ n ∈ (ns1 ++ [(tw l).1, (tw l).2]).take i, n.base ∈ fs.map Nd.base) ∧ But F0 H4 H')
      ⟨none, none, [], [], rfl, f4, .nil, by unfold OkAll; trivial, List.nodup_nil, Nat.zero_le _, (fun n hn => by simp at hn), .refl F0 H4⟩ (fun i σ H' _ hp => ?_) (fun i x σ H5 hx hp => ?_) (fun σ H' hp => ?_)
    · obtain ⟨_, _, _, _, _, _, _, _, _, _, _, e⟩ := hp
      exact .inl (.inl (e.at nLF hLL))
    · obtain ⟨y3, y4, vs', fs, rfl, e1, e2, e3, e4, e5, e6, e7⟩ := hp
      have tp5 : Tups K H4 H5 := e7.tups f4
      obtain ⟨n, hn, kn⟩ := (dAll.up tp5).get hx
      have okn : Ok n l := okAll.mem n (List.mem_of_getElem? hn)
      have hi9 : i < 9 := by
        have := (List.getElem?_eq_some_iff.mp hx).1
        omega
      have tk : (ns1 ++ [(tw l).1, (tw l).2]).take (i + 1) = (ns1 ++ [(tw l).1, (tw l).2]).take i ++ [n] := take_more hn
      refine ifs_any (fun b H' => Same H5 H' ∧ (b = true ↔ n.base ∉ fs.map Nd.base)) (fun b H6 hS => ?_) (fun R hR => ?_)
      · obtain ⟨s6, hb⟩ := hS
        have f6 := s6 _ _ e1
        have d6 : NdsV K H6 vs' fs := e2.up (.of s6)
        cases b with
        | true =>
          have hnb := hb.mp rfl
          refine ⟨.ref F0, rfl, .inl ⟨rfl, _, .inl (.inl f6)⟩, x, rfl, F0, _, _, rfl, rfl, f6, ?_, _, _, vs' ++ [x], fs ++ [n], rfl, upd_same, ?_, ?_, ?_, ?_, fun n' hn' => ?_, (e7.trans (Same.but s6)).trans .set⟩
          · rw [d6.len]
            exact line5 (by omega)
          · have t7 : Tups K H6 (upd H6 F0 (.lst (vs' ++ [x]))) := (But.set (p := F0)).tups f6
            exact (d6.up t7).app (.one ((kn.up (.of s6)).up t7))
          · exact OkAll.of fun y hy => by
              rcases List.mem_append.mp hy with hy | hy
              · exact e3.mem y hy
              · rw [List.mem_singleton.mp hy]
                exact okn
          · rw [List.map_append, List.nodup_append]
            refine ⟨e4, by simp, fun a ha b hb' => ?_⟩
            have : b = n.base := by simpa using hb'
            rw [this]
            intro z
            rw [z] at ha
            exact hnb ha
          · rw [List.length_append]
            simp
            omega
          · rw [tk] at hn'
            rw [List.map_append]
            rcases List.mem_append.mp hn' with hn' | hn'
            · exact List.mem_append_left _ (e6 n' hn')
            · rw [List.mem_singleton.mp hn']
              exact List.mem_append_right _ (by simp)
        | false =>
          have hnb : n.base ∈ fs.map Nd.base := Classical.byContradiction fun z => by
            have := hb.mpr z
            cases this
          refine ⟨_, _, vs', fs, rfl, f6, d6, e3, e4, by omega, fun n' hn' => ?_, e7.trans (Same.but s6)⟩
          rw [tk] at hn'
          rcases List.mem_append.mp hn' with hn' | hn'
          · exact e6 n' hn'
          · rw [List.mem_singleton.mp hn']
            exact hnb
      · refine ⟨.ref F0, rfl, F0, rfl, ⟨_, .inl (.inl e1)⟩, fun D nD => ?_⟩
        refine lc_list (xs := vs') (fun i H' => ∃ bs : List Bool, bs.length = i ∧ H' D = some (.lst (bs.map V.bl)) ∧ Same H5 H' ∧ ∀ (j : Nat) b (y : Nd), bs[j]? = some b → fs[j]? = some y → (b = true ↔ n.base = y.base))
          ⟨[], rfl, upd_same, sameN nD, fun j b y hj => by simp at hj⟩ (fun i H' _ hp => ?_) (fun i u H' hu hp => ?_) (fun H' hp => ?_)
        · obtain ⟨bs, _, _, s7, _⟩ := hp
          exact .inl (.inl (s7 _ _ e1))
        · obtain ⟨bs, g1, g2, s7, g3⟩ := hp
          obtain ⟨y, hy, ky⟩ := (e2.up (.of s7)).get hu
          have oky : Ok y l := e3.mem y (List.mem_of_getElem? hy)
          have hif : i < fs.length := (List.getElem?_eq_some_iff.mp hy).1
          refine ⟨rfl, x, rfl, x, n, rfl, kn.up (.of s7), fun w1 hw1 => ⟨u, rfl, u, y, rfl, ky, fun w2 hw2 => ⟨_, _, hw1, hw2, shaped_dat okn.base.1 l3, shaped_dat oky.base.1 l3, bs.map V.bl, g2, ?_, bs ++ [PyData.eqv (dat n.base) (dat y.base)], by rw [List.length_append, g1]; rfl, ?_, sameW s7 nD, fun j b z hj hz => ?_⟩⟩⟩
          · rw [List.length_map, g1]
            exact line5 (by omega)
          · rw [upd_same, List.map_append]
            rfl
          · by_cases cj : j < bs.length
            · rw [List.getElem?_append_left cj] at hj
              exact g3 j b z hj hz
            · rw [List.getElem?_append_right (by omega)] at hj
              have c0 : j - bs.length = 0 := by
                rcases Nat.eq_zero_or_pos (j - bs.length) with z' | z'
                · exact z'
                · rw [List.getElem?_eq_none_iff.mpr (by simp; omega)] at hj
                  cases hj
              rw [c0] at hj
              have eb := Option.some.inj hj
              have ej : j = i := by omega
              subst ej
              rw [hy] at hz
              cases hz
              rw [← eb]
              exact eqv_dat _ _
        · obtain ⟨bs, g1, g2, s7, g3⟩ := hp
          rw [e2.len] at g1
          refine ⟨D, bs, rfl, .inl (.inl g2), _, rfl, hR _ _ ⟨s7, ?_⟩⟩
          rw [Bool.not_eq_true', ← Bool.not_eq_true, List.any_eq_true]
          refine not_congr ⟨?_, ?_⟩
          · rintro ⟨b, hb, hb'⟩
            have hb' : b = true := hb'
            obtain ⟨j, hj⟩ := List.getElem?_of_mem hb
            obtain ⟨y, hy⟩ := get_of (l := fs) (i := j) (by have := (List.getElem?_eq_some_iff.mp hj).1; omega)
            exact List.mem_map.mpr ⟨y, List.mem_of_getElem? hy, ((g3 j b y hj hy).mp hb').symm⟩
          · intro hm
            obtain ⟨y, hy, e⟩ := List.mem_map.mp hm
            obtain ⟨j, hj⟩ := List.getElem?_of_mem hy
            obtain ⟨b, hb⟩ := get_of (l := bs) (i := j) (by have := (List.getElem?_eq_some_iff.mp hj).1; omega)
            exact ⟨b, List.mem_of_getElem? hb, (g3 j b y hb hj).mpr e.symm⟩
    · obtain ⟨y3, y4, vs', fs, rfl, e1, e2, e3, e4, e5, e6, e7⟩ := hp
      rw [lenAll] at e5 e6
      have full : (ns1 ++ [(tw l).1, (tw l).2]).take 9 = ns1 ++ [(tw l).1, (tw l).2] := List.take_of_length_le (by rw [List.length_append, len1]; exact Nat.le_refl 9)
      rw [full] at e6
      have m1 := e6 (tw l).1 (by simp)
      have m2 := e6 (tw l).2 (by simp)
      rw [base_of_no o4] at m1
      rw [base_of_no o5] at m2
      have two : 2 ≤ fs.length := by
        rcases Nat.lt_or_ge fs.length 2 with z | z
        · exfalso
          match fs, z with
          | [], _ => exact nomatch m1
          | [y], _ =>
            have a1 : (tw l).1 = y.base := by simpa using m1
            have a2 : (tw l).2 = y.base := by simpa using m2
            exact o3 (a1.trans a2.symm)
        · exact z
      have cp := cost_pos l
      refine ⟨_, rfl, q H' F0 vs' fs ?_ hF e1 e2 e3 e4 two e5 ?_⟩
      · exact fun b o nb hb => e7 b o (ne_of_none hb hF) (b4 b o nb hb)
      · obtain ⟨o, ho, po⟩ := p4
        exact ⟨o, e7 _ _ nFp.symm ho, po.le (by omega)⟩
end
end C82

set_option Elab.async false
set_option linter.all false
set_option maxRecDepth 100000
namespace C82
open PySem PySem.Spec PyProof.Rows L2 Loc RZ
/-! ### rows added to rows -/
section
variable {P : Program} {w : World} {K : PySem.W.Frag} {mg : Str → Option Value} {base : Heap}
variable {fT fO fG fL fR fB fW fU : Addr} {dT dO dG dL dR dB dW dU : FuncData}
theorem scAdded : FnScope ["row", "more", "found", "node"] ["row", "more"] (defScope s__law_added) := ⟨rfl, rfl, rfl, by decide +kernel, rfl, by decide +kernel, by decide +kernel⟩
def spAdded (K : PySem.W.Frag) : Sp := fun vs H Q _ => ∃ (a b : Addr) (us ws : List V) (ns ms : List Nd) (l : Nat), vs = [.ref a, .ref b] ∧ H a = some (.lst us) ∧ NdsV K H us ns ∧ H b = some (.lst ws) ∧ NdsV K H ws ms ∧ OkAll ns l ∧ OkAll ms l ∧ l ≤ 20 ∧ Unb ns ∧ ns.length ≤ 1000 ∧ ms.length ≤ 1000 ∧
  ∀ H' f ys zs, Same H H' → H f = none → H' f = some (.lst ys) → NdsV K H' ys zs → OkAll zs l → Unb zs → zs.length ≤ ns.length + ms.length → Q (.ref f) H'
theorem ok_added (X : GenF K mg fT fO fG fL fR fB fW fU dT dO dG dL dR dB dW dU) {f : Addr} {fd : FuncData} (F : Fun K "_law_added" "_law_added" s__law_added f fd) (mlist : mg "list" = none) : FnOk P w K mg base CX0 2 f fd ["row", "more"] (spAdded K) := by
  have GG : FnOk P w K mg base CX0 1 fG dG ["node"] (spGround K) := ok_ground X.G X.isinstance X.tuple
  refine F.ok scAdded (fun vs H Q E h => ?_) (fun cdv A outer s H vs Q E hr h => ?_)
  · obtain ⟨a, b, us, ws, ns, ms, l, rfl, _⟩ := h
    rfl
  · obtain ⟨a, b, us, ws, ns, ms, l, rfl, ha, ka, hb, kb, oka, okb, l20, una, la, lb, q⟩ := h
    have r1 := hr.mono (j := 1) (by omega)
    refine ⟨_, pss_cons (ps_set (i := 2) scAdded.nd rfl (.inl rfl) (pe_callTy call_list_of (by rfl) mlist PyProof.Rows.boot_list (pa_cons (pv 0) pa_nil)))
      (pss_cons (ps_for PassesOwn.never rfl (pi_list (pv 1)) (pg_name (i := 3) scAdded.nd rfl (.inl rfl))
        (pss_one (ps_if (PW.pt (pw_or (pt_cmpR (op_eqD hr.units) (pv 2) (pe_lst pa_nil) (nomark _))
            (pw_or1 (pt_cmpR (op_neD hr.units) (pe_call GG r1 (by rfl) X.gG X.G.kp X.bG .nil pass0 (pa_cons (pe_ix ix_list (pv 2) (pe_un un_neg pe_int) (fun _ _ => rfl)) pa_nil)) (pe_call GG r1 (by rfl) X.gG X.G.kp X.bG .nil pass0 (pa_cons (pv 3) pa_nil)) (nomark _)))))
          (pss_one (ps_expr (pe_bm PySem.F.plainAttrs_list PySem.F.slot_list_append PySem.F.type_list_append mt_append (pv 2) (pa_cons (pv 3) pa_nil)))) pss_nil)))
      (pss_one (ps_ret (pv 2)))), ?_⟩
    refine ⟨.ref a, rfl, a, us, rfl, .inl (.inl (.inl ha)), fun F0 nF => ?_⟩
    have s1 := sameN (o := .lst us) nF
    have bF : b ≠ F0 := fun z => by rw [z, nF] at hb; cases hb
    have hb1 := s1 _ _ hb
    have f1 : upd H F0 (.lst us) F0 = some (.lst us) := upd_same
    have kb1 := kb.up (.of (K := K) s1)
    have ka1 := ka.up (.of (K := K) s1)
    refine ⟨.ref b, rfl, b, rfl, ⟨ws, .inl (.inl hb1)⟩, ?_⟩
    refine for_list (xs := ws) (fun i σ H' => ∃ y3 ys zs, σ = [some (.ref a), some (.ref b), some (.ref F0), y3] ∧ H' F0 = some (.lst ys) ∧ NdsV K H' ys zs ∧ OkAll zs l ∧ Unb zs ∧ zs.length ≤ ns.length + i ∧ But F0 (upd H F0 (.lst us)) H')
      ⟨none, us, ns, rfl, f1, ka1, oka, una, Nat.le_refl _, .refl F0 _⟩ (fun i σ H' _ hp => ?_) (fun i u σ H5 hu hp => ?_) (fun σ H' hp => ?_)
    · obtain ⟨_, _, _, _, _, _, _, _, _, e⟩ := hp
      exact .inl (.inl (e.at bF hb1))
    · obtain ⟨y3, ys, zs, rfl, e1, e2, e3, e4, e5, e6⟩ := hp
      have tp5 : Tups K (upd H F0 (.lst us)) H5 := e6.tups f1
      obtain ⟨n, hn, kn⟩ := (kb1.up tp5).get hu
      have okn : Ok n l := okb.mem n (List.mem_of_getElem? hn)
      have il : i < ms.length := (List.getElem?_eq_some_iff.mp hn).1
      refine ifs_any (fun t H' => Same H5 H' ∧ (t = true → ∀ x, zs.getLast? = some x → x.base ≠ n.base)) (fun t H6 hS => ?_) (fun R hR => ?_)
      · obtain ⟨s6, hb6⟩ := hS
        have f6 := s6 _ _ e1
        have d6 : NdsV K H6 ys zs := e2.up (.of s6)
        cases t with
        | true =>
          have t7 : Tups K H6 (upd H6 F0 (.lst (ys ++ [u]))) := (But.set (p := F0)).tups f6
          refine ⟨.ref F0, rfl, .inl ⟨rfl, _, .inl (.inl f6)⟩, u, rfl, F0, _, _, rfl, rfl, f6, ?_, _, ys ++ [u], zs ++ [n], rfl, upd_same, (d6.up t7).app (.one ((kn.up (.of s6)).up t7)), OkAll.of fun y hy => ?_, unb_app e4 (hb6 rfl), ?_, (e6.trans (Same.but s6)).trans .set⟩
          · rw [d6.len]
            exact line5 (by omega)
          · rcases List.mem_append.mp hy with hy | hy
            · exact e3.mem y hy
            · rw [List.mem_singleton.mp hy]
              exact okn
          · rw [List.length_append, List.length_singleton]
            omega
        | false => exact ⟨_, ys, zs, rfl, f6, d6, e3, e4, by omega, e6.trans (Same.but s6)⟩
      · refine ⟨.ref F0, rfl, (show 0 ≤ sizeLine from by decide), fun l9 hl9 => ⟨_, _, .lst (.inl (.inl ?_)) (e2.up (.of (sameN hl9))), .lst (.inl (.inl upd_same)) .nil, (shaped_all e3 (by omega)).1, shaped_nil, _, rfl, ?_⟩⟩
        · rw [upd_ne (ne_of_none e1 hl9)]
          exact e1
        · rw [eqv_emptyN]
          have s9 := sameN (o := .lst []) hl9
          rcases List.eq_nil_or_concat zs with rfl | ⟨init, z, rfl⟩
          · exact hR _ _ ⟨s9, fun _ x hx => (nomatch hx)⟩
          · rw [List.concat_eq_append] at *
            have z0 : (init ++ [z]).isEmpty = false := by simp
            rw [z0]
            have d9 : NdsV K _ ys (init ++ [z]) := e2.up (.of s9)
            obtain ⟨u2, eu, hz⟩ := d9.last
            have okz : Ok z l := e3.mem z (by simp)
            refine ⟨.ref F0, rfl, 1, rfl, F0, _, -1, u2, rfl, rfl, .inl (.inl (s9 _ _ e1)), eu, u2, z, rfl, hz, fun w1 hw1 => ⟨u, rfl, u, n, rfl, kn.up (.of s9), fun w2 hw2 => ⟨_, _, hw1, hw2, shaped_dat okz.base.1 (by omega), shaped_dat okn.base.1 (by omega), _, rfl, hR _ _ ⟨s9, ?_⟩⟩⟩⟩
            intro h x hx
            rw [Bool.not_eq_true', ← Bool.not_eq_true, eqv_dat] at h
            have : x = z := by
              rw [List.getLast?_append] at hx
              simpa using hx.symm
            rw [this]
            exact h
    · obtain ⟨y3, ys, zs, rfl, e1, e2, e3, e4, e5, e6⟩ := hp
      have lw := kb.len
      exact ⟨_, rfl, q H' F0 ys zs (fun x o e => e6 x o (ne_of_none e nF) (s1 x o e)) nF e1 e2 e3 e4 (by omega)⟩
end
end C82

set_option Elab.async false
set_option linter.all false
set_option maxRecDepth 100000
namespace C82
open PySem PySem.Spec PyProof.Rows L2 Loc RZ
section
variable {P : Program} {w : World} {K : PySem.W.Frag} {mg : Str → Option Value} {base : Heap}
variable {fT fO fG fL fR fB fW fU : Addr} {dT dO dG dL dR dB dW dU : FuncData}
theorem pot_same {H H' : Hp} {p : Addr} {c : Nat} (h : Pot H p c) (s : Same H H') : Pot H' p c := by
  obtain ⟨o, ho, po⟩ := h
  exact ⟨o, s _ _ ho, po⟩
theorem scOut : FnScope ["pot", "some", "many", "turn"] ["pot", "some", "many"] (defScope s__law_out_of) := ⟨rfl, rfl, rfl, by decide +kernel, rfl, by decide +kernel, by decide +kernel⟩
def spOut (K : PySem.W.Frag) : Sp := fun vs H Q _ => ∃ (p S : Addr) (us : List V) (ns : List Nd) (l many c : Nat), vs = [.ref p, .ref S, .int many] ∧ S ≠ p ∧ H S = some (.lst us) ∧ NdsV K H us ns ∧ OkAll ns l ∧ l ≤ 20 ∧ ns ≠ [] ∧ ns.length ≤ 1000 ∧ many ≤ 100 ∧ Pot H p c ∧ c < 700000 ∧
  ∀ H' f ys zs, But p H H' → H f = none → H' f = some (.lst ys) → NdsV K H' ys zs → OkAll zs l → Unb zs → zs.length ≤ many → Pot H' p (c + many) → Q (.ref f) H'
theorem ok_outof (X : GenF K mg fT fO fG fL fR fB fW fU dT dO dG dL dR dB dW dU) {f a : Addr} {fd ad : FuncData} (F : Fun K "_law_out_of" "_law_out_of" s__law_out_of f fd) (A' : Fun K "_law_added" "_law_added" s__law_added a ad) (gA : mg "_law_added" = some (.ref a)) (bA : Binds K ad ["row", "more"] [])
    (mlist : mg "list" = none) (mr : mg "range" = none) : FnOk P w K mg base CX0 3 f fd ["pot", "some", "many"] (spOut K) := by
  have GO : FnOk P w K mg base CX0 2 fO dO ["pot", "some"] spOf := ok_of X.O X.T X.gT X.bT X.len
  have GA : FnOk P w K mg base CX0 2 a ad ["row", "more"] (spAdded K) := ok_added X A' mlist
  refine F.ok scOut (fun vs H Q E h => ?_) (fun cdv A outer s H vs Q E hr h => ?_)
  · obtain ⟨p, S, us, ns, l, many, c, rfl, _⟩ := h
    rfl
  · obtain ⟨p, S, us, ns, l, many, c, rfl, nSp, hS, kS, okS, l20, nne, l1000, m100, hp, hc, q⟩ := h
    refine ⟨_, pss_one (ps_ret (pe_call GA hr (by rfl) gA A'.kp bA .nil pass0 (pa_cons (pe_lst pa_nil)
      (pa_cons (pe_lc (own := [("turn", 3)]) (g := gName 3) (tt := tYes) (te := tCall spOf [] E0 (tCons (tVar 0) (tCons (tVar 1) tNil))) rfl scOut.nd (pi_range1 (by rfl) mr (pa_cons (pv 2) pa_nil)) (blkOk_by (N := ["pot", "some", "many", "turn"]) (sc := defScope s__law_out_of) (by decide +kernel))
        (fun _ _ _ _ _ => pg_name (i := 3) scOut.nd rfl (Or.inl rfl)) (fun _ _ _ _ _ => pts_nil) (fun _ _ _ _ _ => pe_call GO hr (by rfl) X.gO X.O.kp X.bO .nil pass0 (pa_cons (pv 0) (pa_cons (pv 1) pa_nil)))) pa_nil)))), ?_⟩
    refine ⟨(show 0 ≤ sizeLine from by decide), fun l0 n0 => ⟨_, rfl, many, rfl, by omega, by omega, fun D nD => ?_⟩⟩
    have s1 := sameN (o := .lst []) n0
    have p1 : Pot (upd H l0 (.lst [])) p c := hp.new n0
    have nDp : D ≠ p := p1.ne nD
    have l0D : l0 ≠ D := fun z => by rw [← z, upd_same] at nD; cases nD
    have l0p : l0 ≠ p := hp.ne n0
    have nD0 : H D = none := freeS s1 nD
    refine lc_range (fun i H' => ∃ (xs : List V) (zs : List Nd), zs.length = i ∧ H' D = some (.lst xs) ∧ NdsV K H' xs zs ∧ OkAll zs l ∧ But p (upd H l0 (.lst [])) H' ∧ Pot H' p (c + i)) ⟨[], [], rfl, upd_same, .nil, by unfold OkAll; trivial, .new nD, p1.new nD⟩ (fun i H2 hi hp2 => ?_) (fun H2 hp2 => ?_)
    · obtain ⟨xs, zs, c1, c2, c3, c4, b2, p2⟩ := hp2
      have hi' : i < many := by
        have : i < ((many : Nat) : Int).toNat := hi
        omega
      have hS2 := b2.at nSp (s1 _ _ hS)
      have tp2 : Tups K (upd H l0 (.lst [])) H2 := b2.tupsP p1
      have kS2 := (kS.up (.of (K := K) s1)).up tp2
      have lus := kS.len
      refine ⟨rfl, .ref p, rfl, .ref S, rfl, p, S, us, _, rfl, p2, by omega, nSp, hS2, fun z => ?_, by omega, fun j x H3 hj b3 p3 => ?_⟩
      · rw [z] at lus
        exact nne (List.eq_nil_of_length_eq_zero lus.symm)
      obtain ⟨n, hn, kn⟩ := kS2.get hj
      have c2' := b3.at nDp c2
      have tp3 : Tups K H2 H3 := b3.tupsP p2
      have tpD : Tups K H3 (upd H3 D (.lst (xs ++ [x]))) := (But.set (p := D)).tups c2'
      refine ⟨xs, c2', ?_, xs ++ [x], zs ++ [n], by rw [List.length_append, c1]; rfl, upd_same, ((c3.up tp3).app (.one (kn.up tp3))).up tpD, OkAll.of fun y hy => ?_, But.wr (b2.trans b3) nD, (p3.oth nDp.symm).le (by omega)⟩
      · rw [c3.len]
        exact line5 (by omega)
      · rcases List.mem_append.mp hy with hy | hy
        · exact c4.mem y hy
        · rw [List.mem_singleton.mp hy]
          exact okS.mem n (List.mem_of_getElem? hn)
    · obtain ⟨xs, zs, c1, c2, c3, c4, b2, p2⟩ := hp2
      have c1' : zs.length = many := by
        have : zs.length = ((many : Nat) : Int).toNat := c1
        omega
      have h0 := b2.at l0p (upd_same (H := H) (a := l0) (o := .lst []))
      refine ⟨l0, D, [], xs, [], zs, l, rfl, h0, .nil, c2, c3, by unfold OkAll; trivial, c4, l20, trivial, Nat.zero_le _, by omega, fun H3 f' ys ws s3 nf hf kf okf unf lf => ?_⟩
      have b3 : But p H H3 := ((But.new n0).trans b2).trans (Same.but s3)
      have nf0 : H f' = none := ((But.new n0).trans b2).freeP p2 nf
      refine q H3 f' ys ws b3 nf0 hf kf okf unf (by have : ws.length ≤ 0 + zs.length := lf; omega) ((pot_same p2 s3).le ?_)
      have : ((many : Nat) : Int).toNat = many := by omega
      omega
end
end C82

set_option Elab.async false
set_option linter.all false
set_option maxRecDepth 100000
namespace C82
open PySem PySem.Spec PyProof.Rows L2 Loc RZ
section
variable {P : Program} {w : World} {K : PySem.W.Frag} {mg : Str → Option Value} {base : Heap}
variable {fT fO fG fL fR fB fW fU : Addr} {dT dO dG dL dR dB dW dU : FuncData}
/-- a list of nodes -/
def Ls (K : PySem.W.Frag) (H : Hp) (a : Addr) (ns : List Nd) : Prop := ∃ us, H a = some (.lst us) ∧ NdsV K H us ns
theorem Ls.but {H H' : Hp} {a p : Addr} {c : Nat} {ns : List Nd} (h : Ls K H a ns) (b : But p H H') (ne : a ≠ p) (hp : Pot H p c) : Ls K H' a ns := by
  obtain ⟨us, h1, h2⟩ := h
  exact ⟨us, b.at ne h1, h2.up (b.tupsP hp)⟩
theorem Ls.same {H H' : Hp} {a : Addr} {ns : List Nd} (h : Ls K H a ns) (s : Same H H') : Ls K H' a ns := by
  obtain ⟨us, h1, h2⟩ := h
  exact ⟨us, s _ _ h1, h2.up (.of s)⟩
theorem Ls.set {H : Hp} {a R : Addr} {xs : List V} {o : HO} {ns : List Nd} (h : Ls K H a ns) (hR : H R = some (.lst xs)) (ne : a ≠ R) : Ls K (upd H R o) a ns := by
  obtain ⟨us, h1, h2⟩ := h
  exact ⟨us, by rw [upd_ne ne]; exact h1, h2.up ((But.set (p := R)).tups hR)⟩
abbrev nmNr : List Str := ["pot", "some", "first", "last", "sizes", "rows", "size", "turn"]
theorem scNr : FnScope nmNr ["pot"] (defScope s__law_rows_near) := ⟨rfl, rfl, rfl, by decide +kernel, rfl, by decide +kernel, by decide +kernel⟩
def spNr (K : PySem.W.Frag) : Sp := fun vs H Q _ => ∃ (p : Addr) (c : Nat), vs = [.ref p] ∧ Pot H p c ∧ c < 500000 ∧
  ∀ H' t a b us ws ns ms l, But p H H' → H' t = some (.tup [.ref a, .ref b]) → H' a = some (.tup us) → H' b = some (.tup ws) → NdsV K H' us ns → NdsV K H' ws ms → OkAll ns l → OkAll ms l → l ≤ 2 → Unb ns → Unb ms → ns.length ≤ 150 → ms.length ≤ 150 → Pot H' p (c + 2000) → Q (.ref t) H'
theorem cost2 : ∀ l : Nat, l ≤ 2 → cost l ≤ 128
  | 0, _ => by decide
  | 1, _ => by decide
  | 2, _ => by decide
  | l + 3, h => by omega
theorem ok_nr (X : GenF K mg fT fO fG fL fR fB fW fU dT dO dG dL dR dB dW dU) {f a b g : Addr} {fd ad bd gd : FuncData} (F : Fun K "_law_rows_near" "_law_rows_near" s__law_rows_near f fd) (A' : Fun K "_law_added" "_law_added" s__law_added a ad) (gA : mg "_law_added" = some (.ref a)) (bA : Binds K ad ["row", "more"] [])
    (B' : Fun K "_law_out_of" "_law_out_of" s__law_out_of b bd) (gB : mg "_law_out_of" = some (.ref b)) (bB : Binds K bd ["pot", "some", "many"] []) (Y : Fun K "_law_pool" "_law_pool" sPool g gd) (gY : mg "_law_pool" = some (.ref g)) (bY : Binds K gd ["pot", "level"] [])
    (mlist : mg "list" = none) (mr : mg "range" = none) (many : mg "any" = none) : FnOk P w K mg base CX0 11 f fd ["pot"] (spNr K) := by
  have GT : FnOk P w K mg base CX0 1 fT dT ["pot", "bound"] spTake := ok_take X.T
  have GO : FnOk P w K mg base CX0 2 fO dO ["pot", "some"] spOf := ok_of X.O X.T X.gT X.bT X.len
  have GA : FnOk P w K mg base CX0 2 a ad ["row", "more"] (spAdded K) := ok_added X A' mlist
  have GB : FnOk P w K mg base CX0 3 b bd ["pot", "some", "many"] (spOut K) := ok_outof X B' A' gA bA mlist mr
  have GY : FnOk P w K mg base CX0 10 g gd ["pot", "level"] (spPool K 3) := ok_pool X (m := 3) Y mlist many
  refine F.ok scNr (fun vs H Q E h => ?_) (fun cdv A outer s H vs Q E hr h => ?_)
  · obtain ⟨p, c, rfl, _⟩ := h
    rfl
  · obtain ⟨p, c, rfl, hp, hc, q⟩ := h
    have r1 := hr.mono (j := 1) (by omega)
    have r2 := hr.mono (j := 2) (by omega)
    have r3 := hr.mono (j := 3) (by omega)
    refine ⟨_, pss_cons (ps_set (i := 1) scNr.nd rfl (.inl rfl) (pe_call GY hr (by rfl) gY Y.kp bY .nil pass0 (pa_cons (pv 0) (pa_cons (pe_call GO r2 (by rfl) X.gO X.O.kp X.bO .nil pass0 (pa_cons (pv 0) (pa_cons (pe_lst (pa_cons pe_int (pa_cons pe_int (pa_cons pe_int (pa_cons pe_int pa_nil))))) pa_nil))) pa_nil))))
      (pss_cons (ps_set (i := 2) scNr.nd rfl (.inl rfl) (pe_call GB r3 (by rfl) gB B'.kp bB .nil pass0 (pa_cons (pv 0) (pa_cons (pv 1) (pa_cons (pe_call GO r2 (by rfl) X.gO X.O.kp X.bO .nil pass0 (pa_cons (pv 0) (pa_cons (pe_lst (pa_cons pe_int (pa_cons pe_int (pa_cons pe_int (pa_cons pe_int
          (pa_cons (pe_call GT r1 (by rfl) X.gT X.T.kp X.bT .nil pass0 (pa_cons (pv 0) (pa_cons pe_int pa_nil))) pa_nil)))))) pa_nil))) pa_nil)))))
      (pss_cons (ps_set (i := 3) scNr.nd rfl (.inl rfl) (pe_call GB r3 (by rfl) gB B'.kp bB .nil pass0 (pa_cons (pv 0) (pa_cons (pv 1) (pa_cons (pe_call GO r2 (by rfl) X.gO X.O.kp X.bO .nil pass0 (pa_cons (pv 0) (pa_cons (pe_lst (pa_cons pe_int (pa_cons pe_int (pa_cons pe_int (pa_cons pe_int
          (pa_cons (pe_call GT r1 (by rfl) X.gT X.T.kp X.bT .nil pass0 (pa_cons (pv 0) (pa_cons pe_int pa_nil))) pa_nil)))))) pa_nil))) pa_nil)))))
      (pss_cons (ps_setLc (i := 4) (own := [("turn", 7)]) (g := gName 7) (tt := tYes) (te := tCall spOf [] E0 (tCons (tVar 0) (tCons (tLst (tCons (tC (.int 0)) (tCons (tC (.int 1)) (tCons (tC (.int 1)) (tCons (tC (.int 2)) (tCons (tC (.int 30)) tNil)))))) tNil))) rfl scNr.nd rfl rfl (sw_true rfl rfl rfl (by decide +kernel))
          (pi_range1 (by rfl) mr (pa_cons pe_int pa_nil)) (blkOk_by (N := nmNr) (sc := defScope s__law_rows_near) (by decide +kernel)) (fun _ _ _ _ _ => pg_name (i := 7) scNr.nd rfl (Or.inl rfl)) (fun _ _ _ _ _ => pts_nil)
          (fun _ _ _ _ _ => pe_call GO r2 (by rfl) X.gO X.O.kp X.bO .nil pass0 (pa_cons (pv 0) (pa_cons (pe_lst (pa_cons pe_int (pa_cons pe_int (pa_cons pe_int (pa_cons pe_int (pa_cons pe_int pa_nil)))))) pa_nil))))
      (pss_cons (ps_set (i := 5) scNr.nd rfl (.inl rfl) (pe_lst pa_nil))
      (pss_cons (ps_for PassesOwn.never rfl (pi_list (pv 4)) (pg_name (i := 6) scNr.nd rfl (.inl rfl))
        (pss_one (ps_expr (pe_bm PySem.F.plainAttrs_list PySem.F.slot_list_append PySem.F.type_list_append mt_append (pv 5) (pa_cons (pe_call GA r2 (by rfl) gA A'.kp bA .nil pass0 (pa_cons (pe_call GA r2 (by rfl) gA A'.kp bA .nil pass0 (pa_cons (pv 2)
            (pa_cons (pe_call GB r3 (by rfl) gB B'.kp bB .nil pass0 (pa_cons (pv 0) (pa_cons (pv 1) (pa_cons (pv 6) pa_nil)))) pa_nil))) (pa_cons (pv 3) pa_nil))) pa_nil)))))
      (pss_one (ps_ret (pe_tup (pa_cons (pe_callTy call_tuple_of (by rfl) X.tuple PyProof.Rows.boot_tuple (pa_cons (pe_ix ix_list (pv 5) pe_int (fun _ _ => rfl)) pa_nil)) (pa_cons (pe_callTy call_tuple_of (by rfl) X.tuple PyProof.Rows.boot_tuple (pa_cons (pe_ix ix_list (pv 5) pe_int (fun _ _ => rfl)) pa_nil)) pa_nil)))))))))), ?_⟩
    refine ⟨.ref p, rfl, .ref p, rfl, (show 4 ≤ sizeLine from by decide), fun l4 hl4 => ?_⟩
    refine ⟨p, l4, _, _, rfl, hp.new hl4, by omega, hp.ne hl4, upd_same, List.cons_ne_nil _ _, (show 4 ≤ 1000 from by decide), fun j2 x2 H1 hj2 b1 p1 => ?_⟩
    obtain ⟨l, rfl, hl⟩ : ∃ k : Nat, x2 = .int k ∧ k ≤ 2 := by
      have := List.mem_of_getElem? hj2
      simp only [List.mem_cons, List.not_mem_nil, or_false] at this
      rcases this with rfl | rfl | rfl | rfl
      · exact ⟨0, rfl, by decide⟩
      · exact ⟨0, rfl, by decide⟩
      · exact ⟨1, rfl, by decide⟩
      · exact ⟨2, rfl, by decide⟩
    have cs := cost2 l hl
    have b01 := (But.new (p := p) (o := .lst [V.int 0, .int 0, .int 1, .int 2]) hl4).trans b1
    refine ⟨p, l, l, _, rfl, rfl, by omega, by omega, p1, by omega, fun H2 S vsS nsS b2 nS hS dS okS ndS two nine p2 => ?_⟩
    have b02 := b01.trans b2
    have nSp : S ≠ p := p1.ne nS
    have LS : Ls K H2 S nsS := ⟨vsS, hS, dS⟩
    have nne : nsS ≠ [] := fun z => by rw [z] at two; exact absurd two (by decide)
    -- first
    refine ⟨.ref p, rfl, .ref S, rfl, .ref p, rfl, .ref p, rfl, p, 61, _, rfl, p2, by omega, by decide, by decide, fun d H3 d0 d1 b3 p3 => ⟨(show 5 ≤ sizeLine from by decide), fun l5 n5 => ?_⟩⟩
    refine ⟨p, l5, _, _, rfl, p3.new n5, by omega, p3.ne n5, upd_same, List.cons_ne_nil _ _, (show 5 ≤ 1000 from by decide), fun j x H4 hj b4 p4 => ?_⟩
    obtain ⟨m1, rfl, hm1⟩ : ∃ k : Nat, x = .int k ∧ k ≤ 60 := by
      have := List.mem_of_getElem? hj
      simp only [List.mem_cons, List.not_mem_nil, or_false] at this
      have d1' : d < 61 := d1
      rcases this with rfl | rfl | rfl | rfl | rfl
      · exact ⟨0, rfl, by decide⟩
      · exact ⟨1, rfl, by decide⟩
      · exact ⟨3, rfl, by decide⟩
      · exact ⟨60, rfl, by decide⟩
      · exact ⟨d.toNat, int_congr (by omega), by omega⟩
    have b24 : But p H2 H4 := b3.trans ((But.new n5).trans b4)
    have LS4 := LS.but b24 nSp p2
    obtain ⟨us4, hS4, dS4⟩ := LS4
    refine ⟨p, S, us4, nsS, l, m1, _, rfl, nSp, hS4, dS4, okS, by omega, nne, by omega, by omega, p4, by omega, fun H5 Fa ys zs b5 nF hF kF okF unF lF p5 => ?_⟩
    have nFp : Fa ≠ p := p4.ne nF
    have b05 := b02.trans (b24.trans b5)
    have LS5 : Ls K H5 S nsS := Ls.but ⟨us4, hS4, dS4⟩ b5 nSp p4
    have LF5 : Ls K H5 Fa zs := ⟨ys, hF, kF⟩
    clear hj b3 b4 p3 n5 hS4 dS4 hF kF
    -- last
    refine ⟨.ref p, rfl, .ref S, rfl, .ref p, rfl, .ref p, rfl, p, 61, _, rfl, p5, by omega, by decide, by decide, fun d H6 d0 d1 b6 p6 => ⟨(show 5 ≤ sizeLine from by decide), fun l7 n7 => ?_⟩⟩
    refine ⟨p, l7, _, _, rfl, p6.new n7, by omega, p6.ne n7, upd_same, List.cons_ne_nil _ _, (show 5 ≤ 1000 from by decide), fun j x H7 hj b7 p7 => ?_⟩
    obtain ⟨m2, rfl, hm2⟩ : ∃ k : Nat, x = .int k ∧ k ≤ 60 := by
      have := List.mem_of_getElem? hj
      simp only [List.mem_cons, List.not_mem_nil, or_false] at this
      have d1' : d < 61 := d1
      rcases this with rfl | rfl | rfl | rfl | rfl
      · exact ⟨0, rfl, by decide⟩
      · exact ⟨1, rfl, by decide⟩
      · exact ⟨3, rfl, by decide⟩
      · exact ⟨60, rfl, by decide⟩
      · exact ⟨d.toNat, int_congr (by omega), by omega⟩
    have b57 : But p H5 H7 := b6.trans ((But.new n7).trans b7)
    obtain ⟨us7, hS7, dS7⟩ := LS5.but b57 nSp p5
    refine ⟨p, S, us7, nsS, l, m2, _, rfl, nSp, hS7, dS7, okS, by omega, nne, by omega, by omega, p7, by omega, fun H8 La yl zl b8 nL hL kL okL unL lL p8 => ?_⟩
    have nLp : La ≠ p := p7.ne nL
    have b58 := b57.trans b8
    have b08 := b05.trans b58
    have LS8 : Ls K H8 S nsS := LS5.but b58 nSp p5
    have LF8 : Ls K H8 Fa zs := LF5.but b58 nFp p5
    have LL8 : Ls K H8 La zl := ⟨yl, hL, kL⟩
    clear hj b6 b7 p6 n7 hS7 dS7 hL kL b57 b58 b5 LS5 LF5
    -- sizes
    refine ⟨2, rfl, by decide, by decide, fun D nD => ?_⟩
    have nDp : D ≠ p := p8.ne nD
    refine lc_range (fun i H' => ∃ xs : List V, xs.length = i ∧ (∀ x ∈ xs, ∃ k : Nat, x = .int k ∧ k ≤ 30) ∧ H' D = some (.lst xs) ∧ But p H8 H' ∧ Pot H' p (c + 1 + 10 * cost l + 1 + 1 + m1 + 1 + 1 + m2 + i)) ⟨[], rfl, (fun x hx => nomatch hx), upd_same, .new nD, p8.new nD⟩ (fun i H9 hi hp9 => ?_) (fun H9 hp9 => ?_)
    · obtain ⟨xs, c1, c2, c3, b9, p9⟩ := hp9
      have hi' : i < 2 := hi
      refine ⟨rfl, .ref p, rfl, (show 5 ≤ sizeLine from by decide), fun l9 n9 => ⟨p, l9, _, _, rfl, p9.new n9, by omega, p9.ne n9, upd_same, List.cons_ne_nil _ _, (show 5 ≤ 1000 from by decide), fun j x H10 hj b10 p10 => ?_⟩⟩
      have b910 := (But.new n9).trans b10
      have c3' := b910.at nDp c3
      refine ⟨xs, c3', ?_, xs ++ [x], by rw [List.length_append, c1]; rfl, fun y hy => ?_, upd_same, But.wr (b9.trans b910) nD, (p10.oth nDp.symm).le (by omega)⟩
      · rw [c1]
        exact line5 (by omega)
      · rcases List.mem_append.mp hy with hy | hy
        · exact c2 y hy
        · rw [List.mem_singleton.mp hy]
          have := List.mem_of_getElem? hj
          simp only [List.mem_cons, List.not_mem_nil, or_false] at this
          rcases this with rfl | rfl | rfl | rfl | rfl
          · exact ⟨0, rfl, by decide⟩
          · exact ⟨1, rfl, by decide⟩
          · exact ⟨1, rfl, by decide⟩
          · exact ⟨2, rfl, by decide⟩
          · exact ⟨30, rfl, by decide⟩
    obtain ⟨xs, c1, c2, c3, b9, p9⟩ := hp9
    have b09 := b08.trans b9
    have LS9 := LS8.but b9 nSp p8
    have LF9 := LF8.but b9 nFp p8
    have LL9 := LL8.but b9 nLp p8
    refine ⟨(show 0 ≤ sizeLine from by decide), fun R nR => ?_⟩
    have sR := sameN (o := .lst []) nR
    have nRp : R ≠ p := p9.ne nR
    have ne_R : ∀ {x : Addr} {ns : List Nd}, Ls K H9 x ns → x ≠ R := fun {x ns} h z => by
      obtain ⟨us, h1, _⟩ := h
      rw [z, nR] at h1
      cases h1
    have DR : D ≠ R := fun z => by rw [z, nR] at c3; cases c3
    have nR0 : H R = none := b09.freeP p9 nR
    refine ⟨.ref D, rfl, D, rfl, ⟨xs, .inl (.inl (sR _ _ c3))⟩, ?_⟩
    refine for_list (xs := xs) (fun i σ H' => ∃ y6 rs, σ = [some (.ref p), some (.ref S), some (.ref Fa), some (.ref La), some (.ref D), some (.ref R), y6, none] ∧ rs.length = i ∧ H' R = some (.lst rs) ∧ H' D = some (.lst xs) ∧ Ls K H' S nsS ∧ Ls K H' Fa zs ∧ Ls K H' La zl ∧ (∀ x ∈ rs, ∃ q ns, x = .ref q ∧ q ≠ R ∧ q ≠ p ∧ Ls K H' q ns ∧ OkAll ns l ∧ Unb ns ∧ ns.length ≤ 150) ∧ But p H H' ∧
        Pot H' p (c + 1 + 10 * cost l + 1 + 1 + m1 + 1 + 1 + m2 + 2 + 30 * i))
      ⟨none, [], rfl, rfl, upd_same, sR _ _ c3, LS9.same sR, LF9.same sR, LL9.same sR, (fun x hx => nomatch hx), But.wr b09 nR0, (pot_same p9 sR).le (by omega)⟩ (fun i σ H' _ hp10 => ?_) (fun i u σ H10 hu hp10 => ?_) (fun σ H' hp10 => ?_)
    · obtain ⟨_, _, _, _, _, e, _⟩ := hp10
      exact .inl (.inl e)
    · obtain ⟨y6, rs, rfl, e1, e2, e3, e4, e5, e6, e7, e8, e9⟩ := hp10
      have i2 : i < 2 := by
        have := (List.getElem?_eq_some_iff.mp hu).1
        rw [c1] at this
        exact this
      obtain ⟨sz, rfl, hsz⟩ := c2 u (List.mem_of_getElem? hu)
      obtain ⟨uS, hS, kS⟩ := e4
      refine ⟨.ref R, rfl, .inl ⟨rfl, _, .inl (.inl e2)⟩, .ref Fa, rfl, .ref p, rfl, .ref S, rfl, _, rfl, p, S, uS, nsS, l, sz, _, rfl, nSp, hS, kS, okS, by omega, nne, by omega, by omega, e9, by omega, fun H11 o ys zo b11 nO hO kO okO unO lO p11 => ?_⟩
      obtain ⟨uF, hF, kF⟩ := e5.but b11 nFp e9
      refine ⟨Fa, o, uF, ys, zs, zo, l, rfl, hF, kF, hO, kO, okF, okO, by omega, unF, by omega, by omega, fun H12 f1 y1 z1 s12 n1 h1 k1 ok1 un1 l1 => ?_⟩
      obtain ⟨uL, hL, kL⟩ := (e6.but b11 nLp e9).same s12
      refine ⟨.ref La, rfl, f1, La, y1, uL, z1, zl, l, rfl, h1, k1, hL, kL, ok1, okL, by omega, un1, by omega, by omega, fun H13 f2 y2 z2 s13 n2 h2 k2 ok2 un2 l2 => ?_⟩
      have s1213 := s12.trans s13
      have bb : But p H10 H13 := b11.trans (Same.but s1213)
      have eR : H13 R = some (.lst rs) := bb.at nRp e2
      have f2R : f2 ≠ R := fun z => by
        rw [z, s12 _ _ (b11.at nRp e2)] at n2
        cases n2
      have f2p : f2 ≠ p := (pot_same p11 s12).ne n2
      have L2 : Ls K H13 f2 z2 := ⟨y2, h2, k2⟩
      have SR := ne_R LS9
      have FR := ne_R LF9
      have LR := ne_R LL9
      refine ⟨R, rs, _, rfl, rfl, eR, ?_, _, rs ++ [.ref f2], rfl, by rw [List.length_append, e1]; rfl, upd_same, ?_, ?_, ?_, ?_, fun x hx => ?_, But.wr (e8.trans bb) nR0, ((pot_same p11 s1213).oth nRp.symm).le (by omega)⟩
      · rw [e1]
        exact line5 (by omega)
      · rw [upd_ne DR]
        exact bb.at nDp e3
      · exact (Ls.but ⟨uS, hS, kS⟩ bb nSp e9).set eR SR
      · exact (e5.but bb nFp e9).set eR FR
      · exact (e6.but bb nLp e9).set eR LR
      · rcases List.mem_append.mp hx with hx | hx
        · obtain ⟨q', ns, g1, g2, g3, g4, g5⟩ := e7 x hx
          exact ⟨q', ns, g1, g2, g3, (g4.but bb g3 e9).set eR g2, g5⟩
        · rw [List.mem_singleton.mp hx]
          exact ⟨f2, z2, rfl, f2R, f2p, L2.set eR f2R, ok2, un2, by omega⟩
    · obtain ⟨y6, rs, rfl, e1, e2, e3, e4, e5, e6, e7, e8, e9⟩ := hp10
      rw [c1] at e1
      obtain ⟨x0, x1, rfl⟩ : ∃ x0 x1, rs = [x0, x1] := by
        match rs, e1 with
        | [x0, x1], _ => exact ⟨x0, x1, rfl⟩
      obtain ⟨q0, n0, rfl, _, _, ⟨u0, hq0, kq0⟩, ok0, un0, l0⟩ := e7 x0 (by simp)
      obtain ⟨q1, n1, rfl, _, _, ⟨u1, hq1, kq1⟩, ok1, un1, l1⟩ := e7 x1 (by simp)
      refine ⟨.ref R, rfl, R, _, 0, _, rfl, rfl, .inl (.inl e2), atI_nat (j := 0) rfl, q0, _, rfl, .inl ⟨.inl (.inl hq0), fun t0 m0 => ?_⟩⟩
      have s0 := sameN (o := .tup u0) m0
      refine ⟨.ref R, rfl, R, _, 1, _, rfl, rfl, .inl (.inl (s0 _ _ e2)), atI_nat (j := 1) rfl, q1, _, rfl, .inl ⟨.inl (.inl (s0 _ _ hq1)), fun t1 m1' => ⟨(show 2 ≤ sizeLine from by decide), fun t2 m2' => ?_⟩⟩⟩
      have s1 := sameN (o := .tup u1) m1'
      have s2 := sameN (o := .tup [V.ref t0, .ref t1]) m2'
      have s02 := s0.trans (s1.trans s2)
      refine q _ t2 t0 t1 u0 u1 n0 n1 l (e8.trans (Same.but s02)) upd_same ((s1.trans s2) _ _ upd_same) (s2 _ _ upd_same) (kq0.up (.of s02)) (kq1.up (.of s02)) ok0 ok1 hl un0 un1 l0 l1 ((pot_same e9 s02).le ?_)
      rw [c1]
      omega
end
end C82

set_option Elab.async false
set_option linter.all false
set_option maxRecDepth 100000
namespace C82
open PySem PySem.Spec PyProof.Rows L2 Loc RZ
/-! ### equal beginnings, equal ends -/
section
variable {P : Program} {w : World} {K : PySem.W.Frag} {mg : Str → Option Value} {base : Heap}
theorem ndsV_rev {H : Hp} : ∀ {ns : List Nd} {us : List V}, NdsV K H us ns → NdsV K H us.reverse ns.reverse
  | [], us, h => by
    rw [NdsV.inv0 h]
    exact .nil
  | n :: ns, us, h => by
    obtain ⟨v, r, rfl, h1, h2⟩ := h.inv
    rw [List.reverse_cons, List.reverse_cons]
    exact (ndsV_rev h2).app (.one h1)
abbrev nmSame : List Str := ["row", "other", "left", "right", "most", "ahead", "its"]
theorem scSame : FnScope nmSame ["row", "other"] (defScope s__law_same) := ⟨rfl, rfl, rfl, by decide +kernel, rfl, by decide +kernel, by decide +kernel⟩
def spSame (K : PySem.W.Frag) : Sp := fun vs H Q _ => ∃ (a b : Addr) (us ws : List V) (ns ms : List Nd) (l : Nat), vs = [.ref a, .ref b] ∧ SqT K H a us ∧ NdsV K H us ns ∧ SqT K H b ws ∧ NdsV K H ws ms ∧ OkAll ns l ∧ OkAll ms l ∧ l ≤ 20 ∧ ns.length ≤ 1000 ∧ ms.length ≤ 1000 ∧
  ∀ (H' : Hp) (t : Addr) (lf rt : Nat), Same H H' → H' t = some (.tup [.int lf, .int rt]) → lf ≤ min ns.length ms.length → (∀ i, i < lf → ns[i]? = ms[i]?) → (lf = min ns.length ms.length ∨ ns[lf]? ≠ ms[lf]?) →
    rt ≤ min ns.length ms.length - lf → (∀ i, i < rt → ns.reverse[i]? = ms.reverse[i]?) → (rt = min ns.length ms.length - lf ∨ ns.reverse[rt]? ≠ ms.reverse[rt]?) → Q (.ref t) H'
theorem emin {a b : Nat} : (if (b : Int) < (a : Int) then (b : Int) else (a : Int)) = ((min a b : Nat) : Int) := by
  split <;> omega
theorem ok_same {f : Addr} {fd : FuncData} (F : Fun K "_law_same" "_law_same" s__law_same f fd) (ml : mg "len" = none) (mm : mg "min" = none) : FnOk P w K mg base CX0 1 f fd ["row", "other"] (spSame K) := by
  refine F.ok scSame (fun vs H Q E h => ?_) (fun cdv A outer s H vs Q E hr h => ?_)
  · obtain ⟨a, b, us, ws, ns, ms, l, rfl, _⟩ := h
    rfl
  · obtain ⟨a, b, us, ws, ns, ms, l, rfl, ha, ka, hb, kb, oka, okb, l20, la, lb, q⟩ := h
    refine ⟨_, pss_cons (ps_asg (pe_tup (pa_cons pe_int (pa_cons pe_int pa_nil))) (pg_tup rfl (pgs_cons (pg_name (i := 2) scSame.nd rfl (.inl rfl)) (pgs_cons (pg_name (i := 3) scSame.nd rfl (.inl rfl)) pgs_nil))))
      (pss_cons (ps_while PassesOwn.never (PW.pt (pw_and (pt_cmpR op_lt (pv 2) (pe_callB (L2.call_min2 rfl) (by rfl) mm (by decide +kernel) (pa_cons (pe_callB call_len_seq (by rfl) ml PySem.boot_len (pa_cons (pv 0) pa_nil)) (pa_cons (pe_callB call_len_seq (by rfl) ml PySem.boot_len (pa_cons (pv 1) pa_nil)) pa_nil))) (nomark _))
          (pw_and1 (pt_cmpR (op_eqD hr.units) (pe_ix ix_tup (pv 0) (pv 2) (fun _ _ => rfl)) (pe_ix ix_tup (pv 1) (pv 2) (fun _ _ => rfl)) (nomark _)))))
        (pss_one (ps_set (i := 2) scSame.nd rfl (.inl rfl) (pe_op op_add (pv 2) pe_int))))
      (pss_cons (ps_par3 (i := 4) (j := 5) (l := 6) (by rfl) scSame.nd rfl rfl rfl (by decide) (by decide) (by decide) rfl rfl rfl
          (pa_cons (pe_op op_sub (pe_callB (L2.call_min2 rfl) (by rfl) mm (by decide +kernel) (pa_cons (pe_callB call_len_seq (by rfl) ml PySem.boot_len (pa_cons (pv 0) pa_nil)) (pa_cons (pe_callB call_len_seq (by rfl) ml PySem.boot_len (pa_cons (pv 1) pa_nil)) pa_nil))) (pv 2))
            (pa_cons (pe_revT (pv 0) (po_some (pe_un un_neg pe_int))) (pa_cons (pe_revT (pv 1) (po_some (pe_un un_neg pe_int))) pa_nil))) (by rfl))
      (pss_cons (ps_while PassesOwn.never (PW.pt (pw_and (pt_cmpR op_lt (pv 3) (pv 4) (nomark _))
          (pw_and1 (pt_cmpR (op_eqD hr.units) (pe_ix ix_tup (pv 5) (pv 3) (fun _ _ => rfl)) (pe_ix ix_tup (pv 6) (pv 3) (fun _ _ => rfl)) (nomark _)))))
        (pss_one (ps_set (i := 3) scSame.nd rfl (.inl rfl) (pe_op op_add (pv 3) pe_int))))
      (pss_one (ps_ret (pe_tup (pa_cons (pv 2) (pa_cons (pv 3) pa_nil)))))))), ?_⟩
    have lu := ka.len
    have lw := kb.len
    refine ⟨(show 2 ≤ sizeLine from by decide), fun t0 n0 => ⟨t0, [.int 0, .int 0], rfl, .inl (.inl upd_same), rfl, .int 0, [.int 0], rfl, .int 0, [], rfl, rfl, ?_⟩⟩
    have s0 := sameN (o := .tup [V.int 0, .int 0]) n0
    have ha0 := sameT (K := K) s0 ha
    have hb0 := sameT (K := K) s0 hb
    have ka0 := ka.up (.of (K := K) s0)
    have kb0 := kb.up (.of (K := K) s0)
    generalize upd H t0 (.tup [V.int 0, .int 0]) = H0 at s0 ha0 hb0 ka0 kb0 ⊢
    refine ⟨fun m σ H' => ∃ j : Nat, j + m = min ns.length ms.length ∧ σ = [some (.ref a), some (.ref b), some (.int (j : Nat)), some (.int 0), none, none, none] ∧ H' = H0 ∧ ∀ i, i < j → ns[i]? = ms[i]?, ⟨min ns.length ms.length, 0, by omega, rfl, rfl, fun i hi => absurd hi (Nat.not_lt_zero _)⟩, ?_⟩
    rintro m σ H' ⟨j, jm, rfl, rfl, hj⟩
    refine anyT (fun t H2 => H' = H2 ∧ (t = true → j < min ns.length ms.length ∧ ns[j]? = ms[j]?) ∧ (t = false → j = min ns.length ms.length ∨ ns[j]? ≠ ms[j]?)) (fun t H2 hS => ?_) (fun R hR => ?_)
    rotate_left
    · refine ⟨_, rfl, .ref a, rfl, a, us, rfl, .inr ha0, .ref b, rfl, b, ws, rfl, .inr hb0, _, _, rfl, _, _, rfl, rfl, _, rfl, ?_⟩
      rw [emin, lu, lw]
      by_cases c1 : j < min ns.length ms.length
      · rw [decide_eq_true (show (j : Int) < ((min ns.length ms.length : Nat) : Int) by omega)]
        obtain ⟨n, hn⟩ := get_of (l := ns) (i := j) (by omega)
        obtain ⟨m', hm⟩ := get_of (l := ms) (i := j) (by omega)
        obtain ⟨u, hu, ku⟩ := ka0.at hn
        obtain ⟨v, hv, kv⟩ := kb0.at hm
        refine ⟨.ref a, rfl, _, rfl, a, _, j, u, rfl, rfl, ha0, atI_nat hu, .ref b, rfl, _, rfl, b, _, j, v, rfl, rfl, hb0, atI_nat hv, _, _, ku, kv, shaped_dat (oka.mem n (List.mem_of_getElem? hn)) l20, shaped_dat (okb.mem m' (List.mem_of_getElem? hm)) l20, _, rfl, ?_⟩
        by_cases e : n = m'
        · rw [eqv_yes e]
          exact hR _ _ ⟨rfl, fun _ => ⟨c1, by rw [hn, hm, e]⟩, fun z => nomatch z⟩
        · rw [eqv_no e]
          exact hR _ _ ⟨rfl, (fun z => nomatch z), fun _ => .inr (by rw [hn, hm]; exact fun z => e (Option.some.inj z))⟩
      · rw [decide_eq_false (show ¬ (j : Int) < ((min ns.length ms.length : Nat) : Int) by omega)]
        exact hR _ _ ⟨rfl, (fun z => nomatch z), fun _ => .inl (by omega)⟩
    obtain ⟨rfl, h1, h2⟩ := hS
    cases t with
    | true =>
      obtain ⟨c1, e1⟩ := h1 rfl
      refine ⟨fun σ' H'' => σ' = [some (.ref a), some (.ref b), some (.int ((j + 1 : Nat) : Int)), some (.int 0), none, none, none] ∧ H'' = H', fun σ' H'' hN => ⟨m - 1, by omega, j + 1, by omega, hN.1, hN.2, fun i hi => ?_⟩, ?_⟩
      · by_cases e : i = j
        · rw [e]
          exact e1
        · exact hj i (by omega)
      · refine ⟨_, rfl, j, 1, rfl, rfl, ?_, rfl⟩
        show [some (V.ref a), some (V.ref b), some (V.int ((j : Int) + 1)), some (V.int 0), none, none, none] = _
        rw [show ((j : Int) + 1) = ((j + 1 : Nat) : Int) by omega]
    | false =>
      have l2 := h2 rfl
      have jle : j ≤ min ns.length ms.length := by omega
      refine ⟨.ref a, rfl, a, us, rfl, .inr ha0, .ref b, rfl, b, ws, rfl, .inr hb0, _, _, rfl, _, rfl, _, _, rfl, rfl, ?_⟩
      rw [emin, lu, lw]
      refine ⟨.ref a, rfl, 1, rfl, _, rfl, rfl, a, us, rfl, ha0, fun p1 np1 => ⟨.ref b, rfl, 1, rfl, _, rfl, rfl, b, ws, rfl, sameT (sameN np1) hb0, fun p2 np2 => ⟨_, _, _, rfl, ?_⟩⟩⟩
      have s2 := (sameN (o := .tup us.reverse) np1).trans (sameN (o := .tup ws.reverse) np2)
      have g1 := sameN (o := .tup ws.reverse) np2 p1 _ upd_same
      have k1 := (ndsV_rev ka0).up (.of (K := K) s2)
      have k2 := (ndsV_rev kb0).up (.of (K := K) s2)
      have g2 : upd (upd H' p1 (.tup us.reverse)) p2 (.tup ws.reverse) p2 = some (.tup ws.reverse) := upd_same
      have s02 := s0.trans s2
      revert g1 g2 k1 k2 s02
      generalize upd (upd H' p1 (.tup us.reverse)) p2 (.tup ws.reverse) = H3
      intro g1 k1 k2 g2 s02
      have em : ((min ns.length ms.length : Nat) : Int) - (j : Int) = ((min ns.length ms.length - j : Nat) : Int) := by omega
      have okr : ∀ {q : List Nd}, OkAll q l → OkAll q.reverse l := fun h => OkAll.of fun y hy => h.mem y (List.mem_reverse.mp hy)
      refine ⟨fun m σ H' => ∃ r : Nat, r + m = min ns.length ms.length - j ∧ σ = [some (.ref a), some (.ref b), some (.int (j : Nat)), some (.int (r : Nat)), some (.int ((min ns.length ms.length - j : Nat) : Int)), some (.ref p1), some (.ref p2)] ∧ H' = H3 ∧ ∀ i, i < r → ns.reverse[i]? = ms.reverse[i]?, ⟨min ns.length ms.length - j, 0, by omega, ?_, rfl, fun i hi => absurd hi (Nat.not_lt_zero _)⟩, ?_⟩
      · show [some (V.ref a), some (V.ref b), some (V.int j), some (V.int 0), some (V.int (((min ns.length ms.length : Nat) : Int) - (j : Int))), some (V.ref p1), some (V.ref p2)] = _
        rw [em]
        rfl
      rintro m2 σ H4 ⟨r, rm, rfl, rfl, hrr⟩
      refine anyT (fun t H5 => H4 = H5 ∧ (t = true → r < min ns.length ms.length - j ∧ ns.reverse[r]? = ms.reverse[r]?) ∧ (t = false → r = min ns.length ms.length - j ∨ ns.reverse[r]? ≠ ms.reverse[r]?)) (fun t H5 hS => ?_) (fun R hR => ?_)
      rotate_left
      · refine ⟨_, rfl, _, rfl, _, _, rfl, rfl, _, rfl, ?_⟩
        by_cases c1 : r < min ns.length ms.length - j
        · rw [decide_eq_true (show (r : Int) < ((min ns.length ms.length - j : Nat) : Int) by omega)]
          obtain ⟨n, hn⟩ := get_of (l := ns.reverse) (i := r) (by rw [List.length_reverse]; omega)
          obtain ⟨m', hm⟩ := get_of (l := ms.reverse) (i := r) (by rw [List.length_reverse]; omega)
          obtain ⟨u, hu, ku⟩ := k1.at hn
          obtain ⟨v, hv, kv⟩ := k2.at hm
          refine ⟨.ref p1, rfl, _, rfl, p1, _, r, u, rfl, rfl, .inl (.inl g1), atI_nat hu, .ref p2, rfl, _, rfl, p2, _, r, v, rfl, rfl, .inl (.inl g2), atI_nat hv, _, _, ku, kv, shaped_dat ((okr oka).mem n (List.mem_of_getElem? hn)) l20, shaped_dat ((okr okb).mem m' (List.mem_of_getElem? hm)) l20, _, rfl, ?_⟩
          by_cases e : n = m'
          · rw [eqv_yes e]
            exact hR _ _ ⟨rfl, fun _ => ⟨c1, by rw [hn, hm, e]⟩, fun z => nomatch z⟩
          · rw [eqv_no e]
            exact hR _ _ ⟨rfl, (fun z => nomatch z), fun _ => .inr (by rw [hn, hm]; exact fun z => e (Option.some.inj z))⟩
        · rw [decide_eq_false (show ¬ (r : Int) < ((min ns.length ms.length - j : Nat) : Int) by omega)]
          exact hR _ _ ⟨rfl, (fun z => nomatch z), fun _ => .inl (by omega)⟩
      obtain ⟨rfl, h1, h2⟩ := hS
      cases t with
      | true =>
        obtain ⟨c1, e1⟩ := h1 rfl
        refine ⟨fun σ' H'' => σ' = [some (.ref a), some (.ref b), some (.int (j : Nat)), some (.int ((r + 1 : Nat) : Int)), some (.int ((min ns.length ms.length - j : Nat) : Int)), some (.ref p1), some (.ref p2)] ∧ H'' = H4, fun σ' H'' hN => ⟨m2 - 1, by omega, r + 1, by omega, hN.1, hN.2, fun i hi => ?_⟩, ?_⟩
        · by_cases e : i = r
          · rw [e]
            exact e1
          · exact hrr i (by omega)
        · refine ⟨_, rfl, r, 1, rfl, rfl, ?_, rfl⟩
          show [some (V.ref a), some (V.ref b), some (V.int (j : Nat)), some (V.int ((r : Int) + 1)), _, _, _] = _
          rw [show ((r : Int) + 1) = ((r + 1 : Nat) : Int) by omega]
      | false =>
        have r2 := h2 rfl
        refine ⟨_, rfl, _, rfl, (show 2 ≤ sizeLine from by decide), fun t9 n9 => q _ t9 j r (s02.trans (sameN n9)) upd_same jle hj l2 (by omega) hrr r2⟩
end
end C82

set_option Elab.async false
set_option linter.all false
set_option maxRecDepth 100000
namespace C82
open PySem PySem.Spec PyProof.Rows L2 Loc RZ
set_option maxHeartbeats 0 in
structure Facts (K : PySem.W.Frag) (mg : Str → Option Value) where
  {uis_run : Addr} {vis_run : FuncData}
  fis_run : Fun K "is_run" "is_run" sIsRun uis_run vis_run
  gis_run : mg "is_run" = some (.ref uis_run)
  bis_run : Binds K vis_run ["value"] []
  {uis_block : Addr} {vis_block : FuncData}
  fis_block : Fun K "is_block" "is_block" sIsBlk uis_block vis_block
  gis_block : mg "is_block" = some (.ref uis_block)
  bis_block : Binds K vis_block ["value"] []
  {urun_of : Addr} {vrun_of : FuncData}
  frun_of : Fun K "run_of" "run_of" sRunOf urun_of vrun_of
  grun_of : mg "run_of" = some (.ref urun_of)
  brun_of : Binds K vrun_of ["node", "count"] []
  {utext_of : Addr} {vtext_of : FuncData}
  ftext_of : Fun K "text_of" "text_of" sText utext_of vtext_of
  gtext_of : mg "text_of" = some (.ref utext_of)
  btext_of : Binds K vtext_of ["node"] []
  {ufirst_marks : Addr} {vfirst_marks : FuncData}
  ffirst_marks : Fun K "first_marks" "first_marks" sFirst ufirst_marks vfirst_marks
  gfirst_marks : mg "first_marks" = some (.ref ufirst_marks)
  bfirst_marks : Binds K vfirst_marks ["row"] []
  {ufirst_mark : Addr} {vfirst_mark : FuncData}
  ffirst_mark : Fun K "_first_mark" "_first_mark" sFM ufirst_mark vfirst_mark
  gfirst_mark : mg "_first_mark" = some (.ref ufirst_mark)
  bfirst_mark : Binds K vfirst_mark ["texts", "place"] []
  {ufirst_unlike : Addr} {vfirst_unlike : FuncData}
  ffirst_unlike : Fun K "_first_unlike" "_first_unlike" sFU ufirst_unlike vfirst_unlike
  gfirst_unlike : mg "_first_unlike" = some (.ref ufirst_unlike)
  bfirst_unlike : Binds K vfirst_unlike ["one", "other"] []
  {ucode_at : Addr} {vcode_at : FuncData}
  fcode_at : Fun K "_code_at" "_code_at" sCodeAt ucode_at vcode_at
  gcode_at : mg "_code_at" = some (.ref ucode_at)
  bcode_at : Binds K vcode_at ["text", "at"] []
  {unext_marks : Addr} {vnext_marks : FuncData}
  fnext_marks : Fun K "next_marks" "next_marks" sNext unext_marks vnext_marks
  gnext_marks : mg "next_marks" = some (.ref unext_marks)
  bnext_marks : Binds K vnext_marks ["some"] []
  {unext_mark : Addr} {vnext_mark : FuncData}
  fnext_mark : Fun K "_next_mark" "_next_mark" sNm unext_mark vnext_mark
  gnext_mark : mg "_next_mark" = some (.ref unext_mark)
  bnext_mark : Binds K vnext_mark ["some", "place"] []
  {umarks : Addr} {vmarks : FuncData}
  fmarks : Fun K "marks" "marks" sMarks umarks vmarks
  gmarks : mg "marks" = some (.ref umarks)
  bmarks : Binds K vmarks ["row"] []
  {upeaks : Addr} {vpeaks : FuncData}
  fpeaks : Fun K "peaks" "peaks" sPeaks upeaks vpeaks
  gpeaks : mg "peaks" = some (.ref upeaks)
  bpeaks : Binds K vpeaks ["row"] []
  {ucuts : Addr} {vcuts : FuncData}
  fcuts : Fun K "cuts" "cuts" sCuts ucuts vcuts
  gcuts : mg "cuts" = some (.ref ucuts)
  bcuts : Binds K vcuts ["row"] []
  {ublocks : Addr} {vblocks : FuncData}
  fblocks : Fun K "blocks" "blocks" sBlocks ublocks vblocks
  gblocks : mg "blocks" = some (.ref ublocks)
  bblocks : Binds K vblocks ["row"] []
  {umade_runs : Addr} {vmade_runs : FuncData}
  fmade_runs : Fun K "made_runs" "made_runs" sMade umade_runs vmade_runs
  gmade_runs : mg "made_runs" = some (.ref umade_runs)
  bmade_runs : Binds K vmade_runs ["nodes"] []
  {ul_pot : Addr} {vl_pot : FuncData}
  fl_pot : Fun K "_law_pot" "_law_pot" sPot ul_pot vl_pot
  gl_pot : mg "_law_pot" = some (.ref ul_pot)
  bl_pot : Binds K vl_pot ["script", "k"] []
  {ul_take : Addr} {vl_take : FuncData}
  fl_take : Fun K "_law_take" "_law_take" sTake ul_take vl_take
  gl_take : mg "_law_take" = some (.ref ul_take)
  bl_take : Binds K vl_take ["pot", "bound"] []
  {ul_of : Addr} {vl_of : FuncData}
  fl_of : Fun K "_law_of" "_law_of" sOf ul_of vl_of
  gl_of : mg "_law_of" = some (.ref ul_of)
  bl_of : Binds K vl_of ["pot", "some"] []
  {ul_ground : Addr} {vl_ground : FuncData}
  fl_ground : Fun K "_law_ground" "_law_ground" sGround ul_ground vl_ground
  gl_ground : mg "_law_ground" = some (.ref ul_ground)
  bl_ground : Binds K vl_ground ["node"] []
  {ul_leaf : Addr} {vl_leaf : FuncData}
  fl_leaf : Fun K "_law_leaf" "_law_leaf" sLeaf ul_leaf vl_leaf
  gl_leaf : mg "_law_leaf" = some (.ref ul_leaf)
  bl_leaf : Binds K vl_leaf ["pot"] []
  {ul_row : Addr} {vl_row : FuncData}
  fl_row : Fun K "_law_row" "_law_row" sRow ul_row vl_row
  gl_row : mg "_law_row" = some (.ref ul_row)
  bl_row : Binds K vl_row ["pot", "level", "many"] []
  {ul_block : Addr} {vl_block : FuncData}
  fl_block : Fun K "_law_block" "_law_block" sBlock ul_block vl_block
  gl_block : mg "_law_block" = some (.ref ul_block)
  bl_block : Binds K vl_block ["pot", "level"] []
  {ul_twins : Addr} {vl_twins : FuncData}
  fl_twins : Fun K "_law_twins" "_law_twins" sTwins ul_twins vl_twins
  gl_twins : mg "_law_twins" = some (.ref ul_twins)
  bl_twins : Binds K vl_twins ["level"] []
  {ul_unlike : Addr} {vl_unlike : FuncData}
  fl_unlike : Fun K "_law_unlike" "_law_unlike" sUnlike ul_unlike vl_unlike
  gl_unlike : mg "_law_unlike" = some (.ref ul_unlike)
  bl_unlike : Binds K vl_unlike ["node", "level"] []
  {ul_pool : Addr} {vl_pool : FuncData}
  fl_pool : Fun K "_law_pool" "_law_pool" sPool ul_pool vl_pool
  gl_pool : mg "_law_pool" = some (.ref ul_pool)
  bl_pool : Binds K vl_pool ["pot", "level"] []
  {ul_same : Addr} {vl_same : FuncData}
  fl_same : Fun K "_law_same" "_law_same" s__law_same ul_same vl_same
  gl_same : mg "_law_same" = some (.ref ul_same)
  bl_same : Binds K vl_same ["row", "other"] []
  {ul_added : Addr} {vl_added : FuncData}
  fl_added : Fun K "_law_added" "_law_added" s__law_added ul_added vl_added
  gl_added : mg "_law_added" = some (.ref ul_added)
  bl_added : Binds K vl_added ["row", "more"] []
  {ul_out_of : Addr} {vl_out_of : FuncData}
  fl_out_of : Fun K "_law_out_of" "_law_out_of" s__law_out_of ul_out_of vl_out_of
  gl_out_of : mg "_law_out_of" = some (.ref ul_out_of)
  bl_out_of : Binds K vl_out_of ["pot", "some", "many"] []
  {ul_rows_near : Addr} {vl_rows_near : FuncData}
  fl_rows_near : Fun K "_law_rows_near" "_law_rows_near" s__law_rows_near ul_rows_near vl_rows_near
  gl_rows_near : mg "_law_rows_near" = some (.ref ul_rows_near)
  bl_rows_near : Binds K vl_rows_near ["pot"] []
  {ul_spots_right : Addr} {vl_spots_right : FuncData}
  fl_spots_right : Fun K "_law_spots_right" "_law_spots_right" s__law_spots_right ul_spots_right vl_spots_right
  gl_spots_right : mg "_law_spots_right" = some (.ref ul_spots_right)
  bl_spots_right : Binds K vl_spots_right ["row", "other", "left", "right"] []
  {tSIGNS : Tok}
  SIGNS : mg "SIGNS" = some (.str "0123456789 ()^" tSIGNS)
  {tENDED : Tok}
  ENDED : mg "ENDED" = some (.int 14 tENDED)
  abs : mg "abs" = none
  any : mg "any" = none
  int : mg "int" = none
  isinstance : mg "isinstance" = none
  len : mg "len" = none
  list : mg "list" = none
  max : mg "max" = none
  min : mg "min" = none
  range : mg "range" = none
  str : mg "str" = none
  tuple : mg "tuple" = none
  zip : mg "zip" = none

end C82

set_option Elab.async false
set_option linter.all false
set_option maxRecDepth 100000
namespace C82
open PySem PySem.Spec PyProof.Rows L2 Loc RZ
section
variable {P : Program} {w : World} {K : PySem.W.Frag} {mg : Str → Option Value} {base : Heap}
theorem eqv_intsS (zs : List Int) : PyData.eqv (.list (zs.map PyData.int)) (.list (zs.map PyData.int)) = true := by
  show PyData.eqvAll (zs.map PyData.int) (zs.map PyData.int) = true
  induction zs with
  | nil => rfl
  | cons a r ih => simp [PyData.eqvAll, PyData.eqv, ih]
theorem eq_vN {H : Hp} {a b : Addr} {l : List Nat} {Q : VK} (ha : H a = some (.lst (vN l))) (hb : H b = some (.lst (vN l))) (q : Q (.bl true) H) : rEqD K (.ref a) (.ref b) H Q := by
  have e : vN l = (l.map fun n : Nat => (n : Int)).map V.int := by
    unfold vN
    rw [List.map_map]
    rfl
  rw [e] at ha hb
  refine ⟨_, _, .lst (.inl (.inl ha)) (DpAll.ints _), .lst (.inl (.inl hb)) (DpAll.ints _), (shaped_ints _).1, (shaped_ints _).1, ?_⟩
  rw [eqv_intsS]
  exact q
abbrev nmSp : List Str := ["row", "other", "left", "right", "one", "its", "near", "gone", "far", "lot", "spot", "at"]
theorem scSp : FnScope nmSp ["row", "other", "left", "right"] (defScope s__law_spots_right) := ⟨rfl, rfl, rfl, by decide +kernel, rfl, by decide +kernel, by decide +kernel⟩
abbrev cutL (ns : List Nd) : List Nat := (pieces ns).map (·.1)
def spSp (K : PySem.W.Frag) (m : Nat) : Sp := fun vs H Q _ => ∃ (a b : Addr) (ns ms : List Nd) (lf rt : Nat) (wl : List Nat), vs = [.ref a, .ref b, .int lf, .int rt] ∧ RowV K m H a ns ∧ RowV K m H b ms ∧ rt ≤ ns.length ∧ rt ≤ ms.length ∧ lf ≤ 1000 ∧
  (cutL ns).filter (fun x => decide (x + 3 ≤ lf)) = (cutL ms).filter (fun x => decide (x + 3 ≤ lf)) ∧ (cutL ns).filter (fun x => decide (ns.length - rt + 15 ≤ x)) = wl.map (· + (ns.length - rt)) ∧ (cutL ms).filter (fun x => decide (ms.length - rt + 15 ≤ x)) = wl.map (· + (ms.length - rt)) ∧ ∀ H', Same H H' → Q (.bl true) H'
set_option maxHeartbeats 1600000 in
theorem ok_sp (X : Facts K mg) {m k : Nat} (GC : FnOk P w K mg base CX0 k X.ucuts X.vcuts ["row"] (spCuts K m)) : FnOk P w K mg base CX0 (k + 1) X.ul_spots_right X.vl_spots_right ["row", "other", "left", "right"] (spSp K m) := by
  refine X.fl_spots_right.ok scSp (fun vs H Q E h => ?_) (fun cdv A outer s H vs Q E hr h => ?_)
  · obtain ⟨a, b, ns, ms, lf, rt, wl, rfl, _⟩ := h
    rfl
  · obtain ⟨a, b, ns, ms, lf, rt, wl, rfl, ra, rb, ra1, rb1, lf1, hn, hf1, hf2, q⟩ := h
    refine ⟨_, pss_cons (ps_asg (pe_tup (pa_cons (pe_call GC hr (by rfl) X.gcuts X.fcuts.kp X.bcuts .nil pass0 (pa_cons (pv 0) pa_nil)) (pa_cons (pe_call GC hr (by rfl) X.gcuts X.fcuts.kp X.bcuts .nil pass0 (pa_cons (pv 1) pa_nil)) pa_nil)))
        (pg_tup rfl (pgs_cons (pg_name (i := 4) scSp.nd rfl (.inr rfl)) (pgs_cons (pg_name (i := 5) scSp.nd rfl (.inr rfl)) pgs_nil))))
      (pss_cons (ps_setLc (i := 6) (own := [("lot", 9)]) (g := gName 9) (tt := tYes) (te := tLc (iTup K (tVar 9)) (gName 10) (tTest (tOp (rI0 fun i j => .bl (decide (i ≤ j))) (tVar 10) (tOp (rI0 fun i j => .int (i - j)) (tVar 2) (tC (.int 3))))) (tVar 10) [10]) rfl scSp.nd rfl rfl (sw_true rfl rfl rfl (by decide +kernel))
          (pi_tup (pe_tup (pa_cons (pv 4) (pa_cons (pv 5) pa_nil)))) (blkOk_by (N := nmSp) (sc := defScope s__law_spots_right) (by decide +kernel)) (fun _ _ _ _ _ => pg_name (i := 9) scSp.nd rfl (Or.inl rfl)) (fun _ _ _ _ _ => pts_nil)
          (fun _ _ _ _ _ => pe_lc (own := [("spot", 10)]) (g := gName 10) (te := tVar 10) rfl scSp.nd (pi_tup (pv 9)) (blkOk_by (N := nmSp) (sc := { kind := .function, names := [(".0", .local), ("lot", .local), ("left", .cell)], isGenerator := false, isCoroutine := false }) (by decide +kernel)) (fun _ _ _ _ _ => pg_name (i := 10) scSp.nd rfl (Or.inl rfl))
            (fun _ _ _ _ _ => pts_one (pt_cmpR op_le (pv 10) (pe_op op_sub (pv 2) pe_int) (nomark _))) (fun _ _ _ _ _ => pv 10)))
      (pss_cons (ps_set (i := 7) scSp.nd rfl (.inr rfl) (pe_lst (pa_cons (pe_op op_sub (pe_callB call_len_seq (by rfl) X.len PySem.boot_len (pa_cons (pv 0) pa_nil)) (pv 3)) (pa_cons (pe_op op_sub (pe_callB call_len_seq (by rfl) X.len PySem.boot_len (pa_cons (pv 1) pa_nil)) (pv 3)) pa_nil))))
      (pss_cons (ps_setLc (i := 8) (own := [("at", 11)]) (g := gName 11) (tt := tYes) (te := tLc (iTup K (tOp (rIxT K) (tTup (tCons (tVar 4) (tCons (tVar 5) tNil))) (tVar 11))) (gName 10) (tTest (tOp (rI0 fun i j => .bl (decide (j ≤ i))) (tVar 10) (tOp (rI0 fun i j => .int (i + j)) (tOp (rIxL K) (tVar 7) (tVar 11)) (tC (.int 15))))) (tOp (rI0 fun i j => .int (i - j)) (tVar 10) (tOp (rIxL K) (tVar 7) (tVar 11))) [10]) rfl scSp.nd rfl rfl (sw_true rfl rfl rfl (by decide +kernel))
          (pi_tup (pe_tup (pa_cons pe_int (pa_cons pe_int pa_nil)))) (blkOk_by (N := nmSp) (sc := defScope s__law_spots_right) (by decide +kernel)) (fun _ _ _ _ _ => pg_name (i := 11) scSp.nd rfl (Or.inr rfl)) (fun _ _ _ _ _ => pts_nil)
          (fun _ _ _ _ _ => pe_lc (own := [("spot", 10)]) (g := gName 10) rfl scSp.nd (pi_tup (pe_ix ix_tup (pe_tup (pa_cons (pv 4) (pa_cons (pv 5) pa_nil))) (pv 11) (fun _ _ => rfl))) (blkOk_by (N := nmSp) (sc := { kind := .function, names := [(".0", .local), ("at", .cell), ("gone", .cell), ("its", .cell), ("one", .cell)], isGenerator := false, isCoroutine := false }) (by decide +kernel)) (fun _ _ _ _ _ => pg_name (i := 10) scSp.nd rfl (Or.inl rfl))
            (fun _ _ _ _ _ => pts_one (pt_cmpR op_ge (pv 10) (pe_op op_add (pe_ix ix_list (pv 7) (pv 11) (fun _ _ => rfl)) pe_int) (nomark _))) (fun _ _ _ _ _ => pe_op op_sub (pv 10) (pe_ix ix_list (pv 7) (pv 11) (fun _ _ => rfl)))))
      (pss_one (ps_ret (pe_and (pe_cmpR (op_eqD hr.units) (pe_ix ix_list (pv 6) pe_int (fun _ _ => rfl)) (pe_ix ix_list (pv 6) pe_int (fun _ _ => rfl)) (nomark _))
        (pe_one (pe_cmpR (op_eqD hr.units) (pe_ix ix_list (pv 8) pe_int (fun _ _ => rfl)) (pe_ix ix_list (pv 8) pe_int (fun _ _ => rfl)) (nomark _))))))))), ?_⟩
    obtain ⟨ua, hTa, lua, _, _⟩ := ra.at
    obtain ⟨ub, hTb, lub, _, _⟩ := rb.at
    have lcut : ∀ {H : Hp} {x : Addr} {zs : List Nd}, RowV K m H x zs → (cutL zs).length ≤ 100000 := fun {H x zs} h => by
      obtain ⟨_, _, _, _, _, _, _, _, z2, z3⟩ := h
      have := M10.Cont.len (pieces_cont z2)
      show ((pieces zs).map (·.1)).length ≤ 100000
      rw [List.length_map]
      omega
    have lcn := lcut ra
    have lcm := lcut rb
    refine ⟨.ref a, rfl, a, ns, rfl, ra, fun H1 A1 s1 hA => ⟨.ref b, rfl, b, ms, rfl, rb.same s1, fun H2 B1 s2 hB => ⟨(show 2 ≤ sizeLine from by decide), fun t1 nt1 => ⟨t1, [.ref A1, .ref B1], rfl, .inl (.inl upd_same), rfl, .ref A1, [.ref B1], rfl, .ref B1, [], rfl, rfl, ?_⟩⟩⟩⟩
    have st1 := sameN (o := .tup [V.ref A1, .ref B1]) nt1
    have hA3 := sameT (K := K) (s2.trans st1) hA
    have hB3 := sameT (K := K) st1 hB
    have s03 := (s1.trans s2).trans st1
    generalize upd H2 t1 (.tup [V.ref A1, .ref B1]) = H3 at hA3 hB3 s03 ⊢
    clear hA hB s1 s2 st1 nt1
    -- near
    refine ⟨.ref A1, rfl, .ref B1, rfl, (show 2 ≤ sizeLine from by decide), fun t2 nt2 => ⟨t2, rfl, ⟨_, .inl (.inl upd_same)⟩, fun D nD => ?_⟩⟩
    have st2 := sameN (o := .tup [V.ref A1, .ref B1]) nt2
    have hA4 := sameT (K := K) st2 hA3
    have hB4 := sameT (K := K) st2 hB3
    have ht2 : upd H3 t2 (.tup [V.ref A1, .ref B1]) t2 = some (.tup [V.ref A1, .ref B1]) := upd_same
    have s04 := s03.trans st2
    generalize upd H3 t2 (.tup [V.ref A1, .ref B1]) = H4 at hA4 hB4 s04 ht2 nD ⊢
    clear hA3 hB3 s03 st2 nt2
    have inN : ∀ u ∈ [V.ref A1, .ref B1], ∃ q' cl, u = .ref q' ∧ SqT K H4 q' (vN cl) ∧ cl.length ≤ 100000 ∧ cl.filter (fun x => decide (x + 3 ≤ lf)) = (cutL ms).filter (fun x => decide (x + 3 ≤ lf)) := by
      intro u hu
      simp only [List.mem_cons, List.not_mem_nil, or_false] at hu
      rcases hu with rfl | rfl
      · exact ⟨A1, cutL ns, rfl, hA4, lcn, hn⟩
      · exact ⟨B1, cutL ms, rfl, hB4, lcm, rfl⟩
    refine lc_tup (xs := [V.ref A1, .ref B1]) (fun i H' => ∃ rs : List V, rs.length = i ∧ H' D = some (.lst rs) ∧ Same H4 H' ∧ ∀ x ∈ rs, ∃ q', x = .ref q' ∧ q' ≠ D ∧ H' q' = some (.lst (vN ((cutL ms).filter (fun x => decide (x + 3 ≤ lf)))))) ⟨[], rfl, upd_same, sameN nD, (fun x hx => nomatch hx)⟩ (fun i H' _ hp => ?_) (fun i u H5 hu hp => ?_) (fun H' hp => ?_)
    · obtain ⟨_, _, _, e, _⟩ := hp
      exact .inl (.inl (e _ _ ht2))
    · obtain ⟨rs, e1, e2, e3, e4⟩ := hp
      have i2 : i < 2 := (List.getElem?_eq_some_iff.mp hu).1
      obtain ⟨q', cl, rfl, hq, lc, hcl⟩ := inN u (List.mem_of_getElem? hu)
      have hq5 := sameT (K := K) e3 hq
      refine ⟨rfl, _, rfl, q', rfl, ⟨_, hq5⟩, fun D2 nD2 => ?_⟩
      refine lc_tup (xs := vN cl) (fun j H' => H' D2 = some (.lst (vN ((cl.take j).filter (fun x => decide (x + 3 ≤ lf))))) ∧ Same H5 H') ⟨upd_same, sameN nD2⟩ (fun j H' _ hp => sameT hp.2 hq5) (fun j u2 H6 hu2 hp => ?_) (fun H' hp => ?_)
      · obtain ⟨g1, g2⟩ := hp
        obtain ⟨n, hn1, rfl⟩ : ∃ n, cl[j]? = some n ∧ u2 = .int (n : Nat) := by
          unfold vN at hu2
          rw [List.getElem?_map] at hu2
          cases h : cl[j]? with
          | none => rw [h] at hu2; cases hu2
          | some n => rw [h] at hu2; exact ⟨n, rfl, (Option.some.inj hu2).symm⟩
        have jl := (List.getElem?_eq_some_iff.mp hn1).1
        have tk : cl.take (j + 1) = cl.take j ++ [n] := take_more hn1
        refine ⟨rfl, _, rfl, _, rfl, _, 3, rfl, rfl, _, _, rfl, rfl, _, rfl, ?_⟩
        by_cases c : n + 3 ≤ lf
        · rw [decide_eq_true (show (n : Int) ≤ (lf : Int) - 3 by omega)]
          refine iteT ⟨_, rfl, _, g1, ?_, ?_, sameW g2 nD2⟩
          · unfold vN
            rw [List.length_map]
            have := List.length_filter_le (fun x => decide (x + 3 ≤ lf)) (cl.take j)
            rw [List.length_take] at this
            exact line5 (by omega)
          · rw [upd_same, tk, List.filter_append, List.filter_cons_of_pos (by simpa using c)]
            unfold vN
            rw [List.map_append]
            rfl
        · rw [decide_eq_false (show ¬ (n : Int) ≤ (lf : Int) - 3 by omega)]
          refine iteF ⟨?_, g2⟩
          rw [tk, List.filter_append, List.filter_cons_of_neg (by simpa using c), List.filter_nil, List.append_nil]
          exact g1
      · obtain ⟨g1, g2⟩ := hp
        have full : cl.take (vN cl).length = cl := List.take_of_length_le (by unfold vN; rw [List.length_map]; exact Nat.le_refl _)
        rw [full, hcl] at g1
        have eD := g2 _ _ e2
        have D2D : D2 ≠ D := fun z => by rw [z, e2] at nD2; cases nD2
        refine ⟨rs, eD, ?_, rs ++ [.ref D2], by rw [List.length_append, e1]; rfl, upd_same, sameW (e3.trans g2) nD, fun x hx => ?_⟩
        · rw [e1]
          exact line5 (by omega)
        · rcases List.mem_append.mp hx with hx | hx
          · obtain ⟨q2, k1, k2, k3⟩ := e4 x hx
            exact ⟨q2, k1, k2, by rw [upd_ne k2]; exact g2 _ _ k3⟩
          · rw [List.mem_singleton.mp hx]
            exact ⟨D2, rfl, D2D, by rw [upd_ne D2D]; exact g1⟩
    obtain ⟨rs, e1, e2, e3, e4⟩ := hp
    have e1' : rs.length = 2 := e1
    obtain ⟨x0, x1, rfl⟩ : ∃ x0 x1, rs = [x0, x1] := by
      match rs, e1' with
      | [x0, x1], _ => exact ⟨x0, x1, rfl⟩
    obtain ⟨N0, rfl, n0D, hN0⟩ := e4 x0 (by simp)
    obtain ⟨N1, rfl, n1D, hN1⟩ := e4 x1 (by simp)
    have s05 := s04.trans e3
    have hA5 := sameT (K := K) e3 hA4
    have hB5 := sameT (K := K) e3 hB4
    clear inN hA4 hB4 e4 ht2 nD e1 e1'
    -- gone
    refine ⟨.ref a, rfl, a, ua, rfl, .inr (sameT s05 hTa), _, rfl, _, _, rfl, rfl, .ref b, rfl, b, ub, rfl, .inr (sameT s05 hTb), _, rfl, _, _, rfl, rfl, (show 2 ≤ sizeLine from by decide), fun G nG => ?_⟩
    have ga : ((ua.length : Nat) : Int) - (rt : Int) = ((ns.length - rt : Nat) : Int) := by omega
    have gb : ((ub.length : Nat) : Int) - (rt : Int) = ((ms.length - rt : Nat) : Int) := by omega
    have sG := sameN (o := .lst [V.int (((ua.length : Nat) : Int) - (rt : Int)), .int (((ub.length : Nat) : Int) - (rt : Int))]) nG
    have hG : upd H' G (.lst [V.int (((ua.length : Nat) : Int) - (rt : Int)), .int (((ub.length : Nat) : Int) - (rt : Int))]) G = some (.lst [V.int ((ns.length - rt : Nat) : Int), .int ((ms.length - rt : Nat) : Int)]) := by
      rw [upd_same, ga, gb]
    have hA6 := sameT (K := K) sG hA5
    have hB6 := sameT (K := K) sG hB5
    have hD6 := sG _ _ e2
    have hN06 := sG _ _ hN0
    have hN16 := sG _ _ hN1
    have s06 := s05.trans sG
    dsimp only []
    generalize upd H' G (.lst [V.int (((ua.length : Nat) : Int) - (rt : Int)), .int (((ub.length : Nat) : Int) - (rt : Int))]) = H6 at hG hA6 hB6 hD6 hN06 hN16 s06 ⊢
    clear hA5 hB5 e2 hN0 hN1 s05 sG nG e3
    -- far
    refine ⟨(show 2 ≤ sizeLine from by decide), fun t7 nt7 => ⟨t7, rfl, ⟨_, .inl (.inl upd_same)⟩, fun D7 nD7 => ?_⟩⟩
    have st7 := sameN (o := .tup [V.int 0, .int 1]) nt7
    have ht7 : upd H6 t7 (.tup [V.int 0, .int 1]) t7 = some (.tup [V.int 0, .int 1]) := upd_same
    have hA7 := sameT (K := K) st7 hA6
    have hB7 := sameT (K := K) st7 hB6
    have hG7 := st7 _ _ hG
    have inF : ∀ (i : Nat) (u : V), [V.int 0, .int 1][i]? = some u → ∃ (at' g : Nat) (q' : Addr) (cl : List Nat), u = .int (at' : Nat) ∧ [V.ref A1, .ref B1][at']? = some (.ref q') ∧ [V.int ((ns.length - rt : Nat) : Int), .int ((ms.length - rt : Nat) : Int)][at']? = some (.int (g : Nat)) ∧ SqT K (upd H6 t7 (.tup [V.int 0, .int 1])) q' (vN cl) ∧ cl.length ≤ 100000 ∧ cl.filter (fun x => decide (g + 15 ≤ x)) = wl.map (· + g) := by
      intro i u hu
      match i, hu with
      | 0, hu =>
        cases hu
        exact ⟨0, ns.length - rt, A1, cutL ns, rfl, rfl, rfl, hA7, lcn, hf1⟩
      | 1, hu =>
        cases hu
        exact ⟨1, ms.length - rt, B1, cutL ms, rfl, rfl, rfl, hB7, lcm, hf2⟩
      | i + 2, hu => simp at hu
    refine lc_tup (xs := [V.int 0, .int 1]) (fun i H' => ∃ rs : List V, rs.length = i ∧ H' D7 = some (.lst rs) ∧ Same (upd H6 t7 (.tup [V.int 0, .int 1])) H' ∧ ∀ x ∈ rs, ∃ q', x = .ref q' ∧ q' ≠ D7 ∧ H' q' = some (.lst (vN wl))) ⟨[], rfl, upd_same, sameN nD7, (fun x hx => nomatch hx)⟩ (fun i H' _ hp => ?_) (fun i u H8 hu hp => ?_) (fun H' hp => ?_)
    · obtain ⟨_, _, _, e, _⟩ := hp
      exact .inl (.inl (e _ _ ht7))
    · obtain ⟨rs, e1, e2, e3, e4⟩ := hp
      have i2 : i < 2 := (List.getElem?_eq_some_iff.mp hu).1
      obtain ⟨at', g, q', cl, rfl, k1, k2, hq, lc, hcl⟩ := inF i u hu
      have hq5 := sameT (K := K) e3 hq
      refine ⟨rfl, .ref A1, rfl, .ref B1, rfl, (show 2 ≤ sizeLine from by decide), fun t9 nt9 => ?_⟩
      have st9 := sameN (o := .tup [V.ref A1, .ref B1]) nt9
      have hq9 := sameT (K := K) st9 hq5
      have hG9 := st9 _ _ (e3 _ _ hG7)
      have s79 := e3.trans st9
      refine ⟨_, rfl, t9, _, _, _, rfl, rfl, .inl (.inl upd_same), atI_nat k1, q', rfl, ⟨_, hq9⟩, fun D2 nD2 => ?_⟩
      refine lc_tup (xs := vN cl) (fun j H' => H' D2 = some (.lst (((cl.take j).filter (fun x => decide (g + 15 ≤ x))).map fun x : Nat => V.int ((x : Int) - (g : Int)))) ∧ Same (upd H8 t9 (.tup [V.ref A1, .ref B1])) H') ⟨upd_same, sameN nD2⟩ (fun j H' _ hp => sameT hp.2 hq9) (fun j u2 H10 hu2 hp => ?_) (fun H' hp => ?_)
      · obtain ⟨g1, g2⟩ := hp
        obtain ⟨n, hn1, rfl⟩ : ∃ n, cl[j]? = some n ∧ u2 = .int (n : Nat) := by
          unfold vN at hu2
          rw [List.getElem?_map] at hu2
          cases h : cl[j]? with
          | none => rw [h] at hu2; cases hu2
          | some n => rw [h] at hu2; exact ⟨n, rfl, (Option.some.inj hu2).symm⟩
        have jl := (List.getElem?_eq_some_iff.mp hn1).1
        have tk : cl.take (j + 1) = cl.take j ++ [n] := take_more hn1
        have hG10 := g2 _ _ hG9
        refine ⟨rfl, _, rfl, .ref G, rfl, _, rfl, G, _, _, _, rfl, rfl, .inl (.inl hG10), atI_nat k2, _, 15, rfl, rfl, _, _, rfl, rfl, _, rfl, ?_⟩
        by_cases c : g + 15 ≤ n
        · rw [decide_eq_true (show (g : Int) + 15 ≤ (n : Int) by omega)]
          refine iteT ⟨_, rfl, .ref G, rfl, _, rfl, G, _, _, _, rfl, rfl, .inl (.inl hG10), atI_nat k2, _, _, rfl, rfl, _, g1, ?_, ?_, sameW g2 nD2⟩
          · rw [List.length_map]
            have := List.length_filter_le (fun x => decide (g + 15 ≤ x)) (cl.take j)
            rw [List.length_take] at this
            exact line5 (by omega)
          · rw [upd_same, tk, List.filter_append, List.filter_cons_of_pos (by simpa using c), List.map_append]
            rfl
        · rw [decide_eq_false (show ¬ (g : Int) + 15 ≤ (n : Int) by omega)]
          refine iteF ⟨?_, g2⟩
          rw [tk, List.filter_append, List.filter_cons_of_neg (by simpa using c), List.filter_nil, List.append_nil]
          exact g1
      · obtain ⟨g1, g2⟩ := hp
        have full : cl.take (vN cl).length = cl := List.take_of_length_le (by unfold vN; rw [List.length_map]; exact Nat.le_refl _)
        rw [full, hcl] at g1
        have gv : ((wl.map (· + g)).map fun x : Nat => V.int ((x : Int) - (g : Int))) = vN wl := by
          unfold vN
          rw [List.map_map]
          refine List.map_congr_left fun x _ => ?_
          show V.int (((x + g : Nat) : Int) - (g : Int)) = V.int (x : Nat)
          exact congrArg V.int (by omega)
        rw [gv] at g1
        have s810 := st9.trans g2
        have eD := s810 _ _ e2
        have D2D : D2 ≠ D7 := fun z => by rw [z, st9 _ _ e2] at nD2; cases nD2
        refine ⟨rs, eD, ?_, rs ++ [.ref D2], by rw [List.length_append, e1]; rfl, upd_same, sameW (e3.trans s810) nD7, fun x hx => ?_⟩
        · rw [e1]
          exact line5 (by omega)
        · rcases List.mem_append.mp hx with hx | hx
          · obtain ⟨q2, k3, k4, k5⟩ := e4 x hx
            exact ⟨q2, k3, k4, by rw [upd_ne k4]; exact s810 _ _ k5⟩
          · rw [List.mem_singleton.mp hx]
            exact ⟨D2, rfl, D2D, by rw [upd_ne D2D]; exact g1⟩
    obtain ⟨fs, e1, e2, e3, e4⟩ := hp
    have e1' : fs.length = 2 := e1
    obtain ⟨x0, x1, rfl⟩ : ∃ x0 x1, fs = [x0, x1] := by
      match fs, e1' with
      | [x0, x1], _ => exact ⟨x0, x1, rfl⟩
    obtain ⟨F0, rfl, _, hF0⟩ := e4 x0 (by simp)
    obtain ⟨F1, rfl, _, hF1⟩ := e4 x1 (by simp)
    have s67 := st7.trans e3
    have hD8 := s67 _ _ hD6
    have s08 := s06.trans s67
    refine ⟨.ref D, rfl, D, _, 0, _, rfl, rfl, .inl (.inl hD8), atI_nat (j := 0) rfl, .ref D, rfl, D, _, 1, _, rfl, rfl, .inl (.inl hD8), atI_nat (j := 1) rfl, ?_⟩
    refine eq_vN (s67 _ _ hN06) (s67 _ _ hN16) ⟨_, rfl, iteT ?_⟩
    refine ⟨.ref D7, rfl, D7, _, 0, _, rfl, rfl, .inl (.inl e2), atI_nat (j := 0) rfl, .ref D7, rfl, D7, _, 1, _, rfl, rfl, .inl (.inl e2), atI_nat (j := 1) rfl, ?_⟩
    exact eq_vN hF0 hF1 (q _ s08)
end
end C82

set_option Elab.async false
set_option linter.all false
set_option maxRecDepth 100000
namespace C82
open PySem PySem.Spec PyProof.Rows L2 Loc RZ
theorem unb_tail : ∀ {ns : List Nd} {a : Nd}, Unb (a :: ns) → Unb ns
  | [], _, _ => trivial
  | b :: r, a, h => h.2
theorem unb_drop : ∀ (k : Nat) {ns : List Nd}, Unb ns → Unb (ns.drop k)
  | 0, _, h => h
  | k + 1, [], h => h
  | k + 1, a :: r, h => unb_drop k (unb_tail h)
theorem unb_take : ∀ (k : Nat) {ns : List Nd}, Unb ns → Unb (ns.take k)
  | 0, _, _ => trivial
  | k + 1, [], h => h
  | 1, a :: r, h => trivial
  | k + 2, [a], h => trivial
  | k + 2, a :: b :: r, h => ⟨h.1, unb_take (k + 1) (ns := b :: r) h.2⟩
theorem ok_piece {ns : List Nd} {l : Nat} {z : Nat × Nat} (ok : OkAll ns l) (un : Unb ns) (h1 : z.1 + 2 ≤ z.2) (h2 : z.2 ≤ z.1 + 3) (h3 : z.2 ≤ ns.length) : Ok (.blk (pce ns z)) (l + 1) := by
  have len : (pce ns z).length = z.2 - z.1 := by
    unfold pce
    rw [List.length_drop, List.length_take]
    omega
  unfold Ok
  refine ⟨by omega, by omega, by omega, OkAll.of fun n hn => ok.mem n ?_, ?_⟩
  · unfold pce at hn
    exact List.mem_of_mem_take (List.mem_of_mem_drop hn)
  · exact unb_drop z.1 (unb_take z.2 un)
theorem ok_pieces {ns : List Nd} {l : Nat} (ok : OkAll ns l) (un : Unb ns) (h : 2 ≤ ns.length) : OkAll ((pieces ns).map fun z => Nd.blk (pce ns z)) (l + 1) := OkAll.of fun n hn => by
  obtain ⟨z, hz, rfl⟩ := List.mem_map.mp hn
  have := (pieces_cont h).bnd.2 z hz
  exact ok_piece ok un this.1 this.2.1 this.2.2
def bks (ns : List Nd) : List Nd := (pieces ns).map fun z => Nd.blk (pce ns z)
theorem ok_nx82 {ns : List Nd} {l : Nat} (ok : OkAll ns l) (un : Unb ns) (h : 2 ≤ ns.length) (hl : ns.length ≤ 1000) : OkAll (bks ns) (l + 1) ∧ OkAll (mkRuns (bks ns)) (l + 1) ∧ (bks ns).length ≤ 1000 ∧ (mkRuns (bks ns)).length ≤ 1000 := by
  have o1 : OkAll (bks ns) (l + 1) := ok_pieces ok un h
  have l1 : (bks ns).length ≤ 1000 := by
    have := M10.Cont.len (pieces_cont h)
    unfold bks
    rw [List.length_map]
    omega
  refine ⟨o1, OkAll.of fun n hn => ?_, l1, ?_⟩
  · unfold mkRuns at hn
    obtain ⟨p, hp, rfl⟩ := List.mem_map.mp hn
    obtain ⟨f1, f2, f3⟩ := grp_foot (bks ns) p hp
    have okp := o1.mem p.1 f1
    unfold mkRun
    split
    · exact okp
    · rename_i c
      unfold Ok
      refine ⟨by omega, Nat.le_trans (Nat.le_trans f3 l1) (by decide), ?_, okp⟩
      unfold bks at f1
      obtain ⟨z, _, e⟩ := List.mem_map.mp f1
      rw [← e]
      rfl
  · unfold mkRuns
    rw [List.length_map]
    exact Nat.le_trans (grp_len _) l1
theorem cp_len : ∀ a b : List Nat, cp a b ≤ a.length
  | [], b => by cases b <;> (unfold cp; exact Nat.zero_le _)
  | x :: a, [] => by unfold cp; exact Nat.zero_le _
  | x :: a, y :: b => by
    have := cp_len a b
    unfold cp
    split
    · rw [List.length_cons]; omega
    · exact Nat.zero_le _
theorem fmt_le {B : Nat} : ∀ (L : List (List Nat)) (a : List Nat), a.length ≤ B → (∀ t ∈ L, t.length ≤ B ∧ ∀ c ∈ t, Sg c) → ∀ y ∈ fmt a L, y ≤ 16 * B + 14
  | [], a, _, _, y, hy => nomatch hy
  | b :: r, a, ha, h, y, hy => by
    rcases List.mem_cons.mp hy with rfl | hy
    · have h1 := cp_len a b
      have h2 := codeAt_le (h b List.mem_cons_self).2 (cp a b)
      unfold fmk
      omega
    · exact fmt_le r b (h b List.mem_cons_self).1 (fun t ht => h t (List.mem_cons_of_mem _ ht)) y hy
theorem fms_le {B : Nat} {L : List (List Nat)} (h : ∀ t ∈ L, t.length ≤ B ∧ ∀ c ∈ t, Sg c) : ∀ y ∈ fms L, y ≤ 16 * B + 14 := fun y hy => by
  cases L with
  | nil => cases hy
  | cons a r =>
    rcases List.mem_cons.mp hy with rfl | hy
    · have := codeAt_le (h a List.mem_cons_self).2 0
      omega
    · exact fmt_le r a (h a List.mem_cons_self).1 (fun t ht => h t (List.mem_cons_of_mem _ ht)) y hy
theorem fms_64 {ns : List Nd} {l : Nat} (ok : OkAll ns l) (l2 : l ≤ 2) : ∀ y ∈ fms (ns.map cd), y < 2 ^ 64 := fun y hy => by
  have w : wide l ≤ 1340 := by
    match l, l2 with
    | 0, _ => decide
    | 1, _ => decide
    | 2, _ => decide
    | l + 3, h => omega
  have := fms_le (B := 1340) (L := ns.map cd) (fun t ht => by
    obtain ⟨n, hn, rfl⟩ := List.mem_map.mp ht
    refine ⟨?_, fun c hc => cd_sg n c hc⟩
    have := txt_len n l (ok.mem n hn)
    rw [TL.len_tl, tl_txt] at this
    split at this <;> omega) y hy
  exact Nat.lt_of_le_of_lt this (by decide)
/-- rows that begin and end alike -/
theorem row_parts {ns ms : List Nd} {lf rt : Nat} (l1 : lf ≤ min ns.length ms.length) (h1 : ∀ i, i < lf → ns[i]? = ms[i]?) (r1 : rt ≤ min ns.length ms.length - lf) (h2 : ∀ i, i < rt → ns.reverse[i]? = ms.reverse[i]?) :
    ∃ c m m' e : List Nd, ns = c ++ m ++ e ∧ ms = c ++ m' ++ e ∧ c.length = lf ∧ e.length = rt := by
  have t1 : ns.take lf = ms.take lf := List.ext_getElem? fun i => by
    rw [List.getElem?_take, List.getElem?_take]
    split
    · exact h1 i (by assumption)
    · rfl
  have t2 : ns.reverse.take rt = ms.reverse.take rt := List.ext_getElem? fun i => by
    rw [List.getElem?_take, List.getElem?_take]
    split
    · exact h2 i (by assumption)
    · rfl
  have t3 : ns.drop (ns.length - rt) = ms.drop (ms.length - rt) := by
    have := congrArg List.reverse t2
    rw [List.take_reverse, List.take_reverse, List.reverse_reverse, List.reverse_reverse] at this
    exact this
  have sp : ∀ {q : List Nd}, lf + rt ≤ q.length → q = q.take lf ++ (q.drop lf).take (q.length - rt - lf) ++ q.drop (q.length - rt) := fun {q} h => by
    have e : q.drop (q.length - rt) = (q.drop lf).drop (q.length - rt - lf) := by
      rw [List.drop_drop]
      congr 1
      omega
    rw [e, List.append_assoc, List.take_append_drop, List.take_append_drop]
  refine ⟨ns.take lf, (ns.drop lf).take (ns.length - rt - lf), (ms.drop lf).take (ms.length - rt - lf), ns.drop (ns.length - rt), sp (by omega), ?_, ?_, ?_⟩
  · rw [t1, t3]
    exact sp (by omega)
  · rw [List.length_take]
    omega
  · rw [List.length_drop]
    omega
end C82

set_option Elab.async false
set_option linter.all false
set_option maxRecDepth 100000
namespace C82
open PySem PySem.Spec PyProof.Rows L2 Loc RZ
/-! ### the trees of the program -/
section
variable {P : Program} {w : World} {K : PySem.W.Frag} {mg : Str → Option Value} {base : Heap}
theorem base_first (X : Facts K mg) : FnOk P w K mg base CX0 19 X.ufirst_marks X.vfirst_marks ["row"] (spFirst K 16) := ok_first (m := 16) X.ffirst_marks
    { A := X.fis_run, C := X.fis_block, X := X.ftext_of, F1 := X.ffirst_mark, F2 := X.ffirst_unlike, F3 := X.fcode_at, gA := X.gis_run, gC := X.gis_block, gX := X.gtext_of, gF1 := X.gfirst_mark, gF2 := X.gfirst_unlike, gF3 := X.gcode_at, bA := X.bis_run, bC := X.bis_block, bX := X.btext_of, bF1 := X.bfirst_mark, bF2 := X.bfirst_unlike, bF3 := X.bcode_at,
      SIGNS := X.SIGNS, ENDED := X.ENDED, len := X.len, tuple := X.tuple, range := X.range, isinstance := X.isinstance, str := X.str }
theorem base_peaks (X : Facts K mg) : FnOk P w K mg base CX0 21 X.upeaks X.vpeaks ["row"] (spPeaks K 16) := by
  have G1 : FnOk P w K mg base CX0 2 X.unext_marks X.vnext_marks ["some"] (spNext K) := ok_next X.fnext_marks X.fnext_mark X.gnext_mark X.bnext_mark X.len X.range X.tuple
  have G3 := ok_marks (m := 16) X.fmarks (base_first X) X.ffirst_marks X.gfirst_marks X.bfirst_marks G1 X.fnext_marks X.gnext_marks X.bnext_marks X.range
  exact ok_peaks (m := 16) X.fpeaks G3 X.fmarks X.gmarks X.bmarks X.range X.len X.tuple
theorem base_cuts (X : Facts K mg) : FnOk P w K mg base CX0 22 X.ucuts X.vcuts ["row"] (spCuts K 16) :=
  ok_cuts (m := 16) X.fcuts (base_peaks X) X.fpeaks X.gpeaks X.bpeaks X.range X.len X.tuple X.zip X.list
theorem base_blocks (X : Facts K mg) : FnOk P w K mg base CX0 23 X.ublocks X.vblocks ["row"] (spBlocks K 16) :=
  ok_blocks (m := 16) X.fblocks (base_cuts X) X.fcuts X.gcuts X.bcuts X.len X.tuple X.zip
end
section
variable {P : Program} {w : World} {K : PySem.W.Frag} {mg : Str → Option Value} {base : Heap}
abbrev nmLaw : List Str := ["script", "k", "pot", "turn", "row", "other", "left", "right", "much", "later", "its"]
theorem scLaw : FnScope nmLaw ["script"] (defScope sLaw) := ⟨rfl, rfl, rfl, by decide +kernel, rfl, by decide +kernel, by decide +kernel⟩
theorem base_gen (X : Facts K mg) : GenF K mg X.ul_take X.ul_of X.ul_ground X.ul_leaf X.ul_row X.ul_block X.ul_twins X.ul_unlike X.vl_take X.vl_of X.vl_ground X.vl_leaf X.vl_row X.vl_block X.vl_twins X.vl_unlike :=
  { T := X.fl_take, O := X.fl_of, G := X.fl_ground, L := X.fl_leaf, R := X.fl_row, B := X.fl_block, W := X.fl_twins, U := X.fl_unlike, gT := X.gl_take, gO := X.gl_of, gG := X.gl_ground, gL := X.gl_leaf, gR := X.gl_row, gB := X.gl_block, gW := X.gl_twins, gU := X.gl_unlike, bT := X.bl_take, bO := X.bl_of, bG := X.bl_ground, bL := X.bl_leaf, bR := X.bl_row, bB := X.bl_block, bW := X.bl_twins, bU := X.bl_unlike, len := X.len, tuple := X.tuple, isinstance := X.isinstance }
theorem emax {a b : Nat} : (if (b : Int) > (a : Int) then (b : Int) else (a : Int)) = ((max a b : Nat) : Int) := by
  split <;> omega
theorem rowV82 {H : Hp} {a : Addr} {us : List V} {ns : List Nd} {l : Nat} (h : SqT K H a us) (k : NdsV K H us ns) (ok : OkAll ns l) (l2 : l ≤ 2) (un : Unb ns) (n2 : 2 ≤ ns.length) (n150 : ns.length ≤ 150) : RowV K 16 H a ns := by
  refine ⟨us, l, h, k, ok, un, ?_, fun n hn => ?_, n2, by omega⟩
  · match l, l2 with
    | 0, _ => decide
    | 1, _ => decide
    | 2, _ => decide
    | l + 3, h => omega
  · have := ht_le n l (ok.mem n hn)
    split at this <;> omega
def spLaw (K : PySem.W.Frag) : Sp := fun vs H Q _ => ∃ (a : Addr) (ns : List Int), vs = [.ref a] ∧ SqL K H a (ns.map V.int) ∧ ns.length ≤ 63 ∧ ∀ H', Q (.bl true) H'
theorem ok_law {f : Addr} {fd : FuncData} (F : Fun K "law" "law" sLaw f fd) (X : Facts K mg) : FnG P w K mg base CX0 24 f fd ["script"] (spLaw K) := by
  have GP : FnOk P w K mg base CX0 1 X.ul_pot X.vl_pot ["script", "k"] (spPot K) := ok_pot X.fl_pot X.len X.abs X.int
  have GN : FnOk P w K mg base CX0 11 X.ul_rows_near X.vl_rows_near ["pot"] (spNr K) := ok_nr (base_gen X) X.fl_rows_near X.fl_added X.gl_added X.bl_added X.fl_out_of X.gl_out_of X.bl_out_of X.fl_pool X.gl_pool X.bl_pool X.list X.range X.any
  have GS : FnOk P w K mg base CX0 1 X.ul_same X.vl_same ["row", "other"] (spSame K) := ok_same X.fl_same X.len X.min
  have GC : FnOk P w K mg base CX0 23 X.ul_spots_right X.vl_spots_right ["row", "other", "left", "right"] (spSp K 16) := ok_sp X (base_cuts X)
  have GB : FnOk P w K mg base CX0 23 X.ublocks X.vblocks ["row"] (spBlocks K 16) := base_blocks X
  have GM : FnOk P w K mg base CX0 3 X.umade_runs X.vmade_runs ["nodes"] (spMade K) := ok_made X.fmade_runs X.frun_of X.grun_of X.brun_of X.len X.tuple
  refine fun_okG F scLaw (fun vs H Q E h => ?_) (fun cdv A outer s H vs Q E hg hr h => ?_)
  · obtain ⟨a, ns, rfl, _⟩ := h
    rfl
  · obtain ⟨a, ns, rfl, hS, hlen, q⟩ := h
    have r1 := hr.mono (j := 1) (by omega)
    have r3 := hr.mono (j := 3) (by omega)
    have r11 := hr.mono (j := 11) (by omega)
    refine ⟨_, pss_cons (ps_for PassesOwn.never rfl (pi_range1 (by rfl) X.range (pa_cons (pe_callB (L2.call_max2 rfl) (by rfl) X.max (by decide +kernel) (pa_cons pe_int (pa_cons (pe_callB (L2.call_min2 rfl) (by rfl) X.min (by decide +kernel)
            (pa_cons pe_int (pa_cons (pe_callB call_len_seq (by rfl) X.len PySem.boot_len (pa_cons (pv 0) pa_nil)) pa_nil))) pa_nil))) pa_nil)) (pg_name (i := 1) scLaw.nd rfl (.inl rfl))
        (pss_cons (ps_set (i := 2) scLaw.nd rfl (.inl rfl) (pe_call GP r1 (by rfl) X.gl_pot X.fl_pot.kp X.bl_pot .nil pass0 (pa_cons (pv 0) (pa_cons (pv 1) pa_nil))))
        (pss_one (ps_for PassesOwn.never rfl (pi_range1 (by rfl) X.range (pa_cons pe_int pa_nil)) (pg_name (i := 3) scLaw.nd rfl (.inl rfl))
          (pss_cons (ps_asg (pe_call GN r11 (by rfl) X.gl_rows_near X.fl_rows_near.kp X.bl_rows_near .nil pass0 (pa_cons (pv 2) pa_nil)) (pg_tup rfl (pgs_cons (pg_name (i := 4) scLaw.nd rfl (.inl rfl)) (pgs_cons (pg_name (i := 5) scLaw.nd rfl (.inl rfl)) pgs_nil))))
          (pss_one (ps_if (pt_cmpR op_gt (pe_callB (L2.call_min2 rfl) (by rfl) X.min (by decide +kernel) (pa_cons (pe_callB call_len_seq (by rfl) X.len PySem.boot_len (pa_cons (pv 4) pa_nil)) (pa_cons (pe_callB call_len_seq (by rfl) X.len PySem.boot_len (pa_cons (pv 5) pa_nil)) pa_nil))) pe_int (nomark _))
            (pss_cons (ps_asg (pe_call GS r1 (by rfl) X.gl_same X.fl_same.kp X.bl_same .nil pass0 (pa_cons (pv 4) (pa_cons (pv 5) pa_nil))) (pg_tup rfl (pgs_cons (pg_name (i := 6) scLaw.nd rfl (.inl rfl)) (pgs_cons (pg_name (i := 7) scLaw.nd rfl (.inl rfl)) pgs_nil))))
            (pss_cons (ps_if (pt_not (pt_val (pe_call GC hr (by rfl) X.gl_spots_right X.fl_spots_right.kp X.bl_spots_right .nil pass0 (pa_cons (pv 4) (pa_cons (pv 5) (pa_cons (pv 6) (pa_cons (pv 7) pa_nil))))))) (pss_one (ps_ret pe_bl)) pss_nil)
            (pss_cons (ps_set (i := 8) scLaw.nd rfl (.inl rfl) (pe_op op_sub (pe_op op_sub (pe_callB (L2.call_max2 rfl) (by rfl) X.max (by decide +kernel) (pa_cons (pe_callB call_len_seq (by rfl) X.len PySem.boot_len (pa_cons (pv 4) pa_nil)) (pa_cons (pe_callB call_len_seq (by rfl) X.len PySem.boot_len (pa_cons (pv 5) pa_nil)) pa_nil))) (pv 6)) (pv 7)))
            (pss_cons (ps_par (i := 9) (j := 10) (by rfl) scLaw.nd rfl rfl (by decide) rfl rfl (pa_cons (pe_call GM r3 (by rfl) X.gmade_runs X.fmade_runs.kp X.bmade_runs .nil pass0 (pa_cons (pe_call GB hr (by rfl) X.gblocks X.fblocks.kp X.bblocks .nil pass0 (pa_cons (pv 4) pa_nil)) pa_nil))
                (pa_cons (pe_call GM r3 (by rfl) X.gmade_runs X.fmade_runs.kp X.bmade_runs .nil pass0 (pa_cons (pe_call GB hr (by rfl) X.gblocks X.fblocks.kp X.bblocks .nil pass0 (pa_cons (pv 5) pa_nil)) pa_nil)) pa_nil)) (by rfl))
            (pss_cons (ps_asg (pe_call GS r1 (by rfl) X.gl_same X.fl_same.kp X.bl_same .nil pass0 (pa_cons (pv 9) (pa_cons (pv 10) pa_nil))) (pg_tup rfl (pgs_cons (pg_name (i := 6) scLaw.nd rfl (.inl rfl)) (pgs_cons (pg_name (i := 7) scLaw.nd rfl (.inl rfl)) pgs_nil))))
            (pss_one (ps_if (pt_cmpR op_gt (pe_op op_mul pe_int (pe_op op_sub (pe_op op_sub (pe_callB (L2.call_max2 rfl) (by rfl) X.max (by decide +kernel) (pa_cons (pe_callB call_len_seq (by rfl) X.len PySem.boot_len (pa_cons (pv 9) pa_nil)) (pa_cons (pe_callB call_len_seq (by rfl) X.len PySem.boot_len (pa_cons (pv 10) pa_nil)) pa_nil))) (pv 6)) (pv 7))) (pe_op op_add (pv 8) pe_int) (nomark _))
              (pss_one (ps_ret pe_bl)) pss_nil))))))) pss_nil)))))))
      (pss_one (ps_ret pe_bl)), ?_⟩
    refine ⟨.ref a, rfl, a, _, rfl, .inl hS, 2, _, rfl, 1, _, rfl, _, rfl, ?_, ?_, ?_⟩
    · show -(2 ^ 62) ≤ (if (if (((ns.map V.int).length : Nat) : Int) < 2 then (((ns.map V.int).length : Nat) : Int) else 2) > 1 then (if (((ns.map V.int).length : Nat) : Int) < 2 then (((ns.map V.int).length : Nat) : Int) else 2) else 1)
      split <;> (try split) <;> omega
    · show (if (if (((ns.map V.int).length : Nat) : Int) < 2 then (((ns.map V.int).length : Nat) : Int) else 2) > 1 then (if (((ns.map V.int).length : Nat) : Int) < 2 then (((ns.map V.int).length : Nat) : Int) else 2) else 1) < 2 ^ 62
      split <;> (try split) <;> omega
    have turns : (if (if (((ns.map V.int).length : Nat) : Int) < 2 then (((ns.map V.int).length : Nat) : Int) else 2) > 1 then (if (((ns.map V.int).length : Nat) : Int) < 2 then (((ns.map V.int).length : Nat) : Int) else 2) else 1).toNat ≤ 2 := by
      split <;> (try split) <;> omega
    refine for_range (fun i σ H' => ∃ y1 y2 y3 y4 y5 y6 y7 y8 y9 y10, σ = [some (.ref a), y1, y2, y3, y4, y5, y6, y7, y8, y9, y10] ∧ Same H H') ⟨none, none, none, none, none, none, none, none, none, none, rfl, Same.refl H⟩ (fun k σ H1 hk hp => ?_) (fun σ H' hp => ?_)
    rotate_left
    · obtain ⟨y1, y2, y3, y4, y5, y6, y7, y8, y9, y10, rfl, sm⟩ := hp
      exact q _
    obtain ⟨y1, y2, y3, y4, y5, y6, y7, y8, y9, y10, rfl, sm⟩ := hp
    have hk3 : k < 2 := Nat.lt_of_lt_of_le hk turns
    refine ⟨.ref a, rfl, _, rfl, a, ns, k, ?_, sm.seq hS, by omega, by omega, fun p o np po => ?_⟩
    · show [V.ref a, V.int (0 + (k : Int))] = _
      rw [Int.zero_add]
    refine ⟨8, rfl, by decide, by decide, ?_⟩
    refine for_range (fun i σ H' => ∃ z1 z3 z4 z5 z6 z7 z8 z9 z10, σ = [some (.ref a), z1, some (.ref p), z3, z4, z5, z6, z7, z8, z9, z10] ∧ But p H1 H' ∧ Pot H' p (2000 * i)) ⟨_, _, _, _, _, _, _, _, _, rfl, But.set, Pot.put po⟩ (fun i σ H2 hi hp => ?_) (fun σ H' hp => ?_)
    rotate_left
    · obtain ⟨z1, z3, z4, z5, z6, z7, z8, z9, z10, rfl, b2, _⟩ := hp
      exact ⟨_, _, _, _, _, _, _, _, _, _, rfl, sm.trans (b2.same np)⟩
    obtain ⟨z1, z3, z4, z5, z6, z7, z8, z9, z10, rfl, b2, p2⟩ := hp
    have hi' : i < 8 := hi
    refine ⟨.ref p, rfl, p, _, rfl, p2, by omega, fun H3 t0 ra rb us ws xs ys l b3 ht hra hrb kra krb okx oky l2 unx uny lx ly p3 => ?_⟩
    refine ⟨t0, _, rfl, .inl (.inl ht), rfl, _, _, rfl, _, _, rfl, rfl, ?_⟩
    have b13 := b2.trans b3
    have lu := kra.len
    have lw := krb.len
    have hx3 : SqT K H3 ra us := .inl (.inl hra)
    have hy3 : SqT K H3 rb ws := .inl (.inl hrb)
    refine ⟨.ref ra, rfl, ra, us, rfl, .inr hx3, .ref rb, rfl, rb, ws, rfl, .inr hy3, _, _, rfl, _, _, rfl, rfl, _, rfl, ite2 (fun e0 => ?_) (fun e0 => ?_)⟩
    rotate_left
    · exact ⟨_, _, _, _, _, _, _, _, _, rfl, b13, p3.le (by omega)⟩
    have two : 2 ≤ xs.length ∧ 2 ≤ ys.length := by
      have := of_decide_eq_true e0
      rw [emin, lu, lw] at this
      omega
    obtain ⟨n2, n2'⟩ := two
    refine ⟨.ref ra, rfl, .ref rb, rfl, ra, rb, us, ws, xs, ys, l, rfl, hx3, kra, hy3, krb, okx, oky, by omega, by omega, by omega, fun H4 t1 lf rt s4 ht1 g1 g2 g3 g4 g5 g6 => ?_⟩
    refine ⟨t1, _, rfl, .inl (.inl ht1), rfl, _, _, rfl, _, _, rfl, rfl, ?_⟩
    obtain ⟨c, m, m', e, ex, ey, lc, le'⟩ := row_parts g1 g2 g4 g5
    have lex : xs.length = lf + m.length + rt := by rw [ex, List.length_append, List.length_append, lc, le']
    have ley : ys.length = lf + m'.length + rt := by rw [ey, List.length_append, List.length_append, lc, le']
    have rx3 : RowV K 16 H3 ra xs := rowV82 hx3 kra okx l2 unx n2 lx
    have ry3 : RowV K 16 H3 rb ys := rowV82 hy3 krb oky l2 uny n2' ly
    have ltx := fms_64 okx l2
    have hn : (cutL xs).filter (fun x => decide (x + 3 ≤ lf)) = (cutL ys).filter (fun x => decide (x + 3 ≤ lf)) := by
      have := near_row (c := c) (s := m ++ e) (s' := m' ++ e) (by rw [← List.append_assoc, ← ex]; exact n2) (by rw [← List.append_assoc, ← ey]; exact n2')
      rw [← List.append_assoc, ← List.append_assoc, ← ex, ← ey, lc] at this
      exact this
    have hfar : ∃ wl : List Nat, (cutL xs).filter (fun x => decide (xs.length - rt + 15 ≤ x)) = wl.map (· + (xs.length - rt)) ∧ (cutL ys).filter (fun x => decide (ys.length - rt + 15 ≤ x)) = wl.map (· + (ys.length - rt)) := by
      have := far_row (x := c ++ m) (x' := c ++ m') (e := e) (l := l) (by rw [← ex]; exact n2) (by rw [← ey]; exact n2') (by rw [← ex]; exact okx) (by rw [← ex]; exact unx) (by rw [← ex]; exact ltx)
      rw [← ex, ← ey, List.length_append, List.length_append, lc] at this
      rw [show xs.length - rt = lf + m.length by omega, show ys.length - rt = lf + m'.length by omega]
      exact this
    obtain ⟨wl, hf1, hf2⟩ := hfar
    refine ⟨.ref ra, rfl, .ref rb, rfl, _, rfl, _, rfl, ra, rb, xs, ys, lf, rt, wl, rfl, rx3.same s4, ry3.same s4, by omega, by omega, by omega, hn, hf1, hf2, fun H5 s5 => ⟨_, rfl, iteF ?_⟩⟩
    have s45 := s4.trans s5
    refine ⟨.ref ra, rfl, ra, us, rfl, .inr (sameT s45 hx3), .ref rb, rfl, rb, ws, rfl, .inr (sameT s45 hy3), _, _, rfl, _, rfl, _, _, rfl, rfl, _, rfl, _, _, rfl, rfl, ?_⟩
    obtain ⟨ob1, ob2, ob3, ob4⟩ := ok_nx82 okx unx n2 (by omega)
    obtain ⟨pb1, pb2, pb3, pb4⟩ := ok_nx82 oky uny n2' (by omega)
    refine ⟨.ref ra, rfl, ra, xs, rfl, rx3.same s45, fun H6 bA uA s6 hbA kbA => ⟨bA, uA, bks xs, l + 1, rfl, hbA, kbA, ob1, by omega, by omega, fun H7 cA wA s7 hcA kcA => ?_⟩⟩
    have s47 := s45.trans (s6.trans s7)
    refine ⟨.ref rb, rfl, rb, ys, rfl, ry3.same s47, fun H8 bB uB s8 hbB kbB => ⟨bB, uB, bks ys, l + 1, rfl, hbB, kbB, pb1, by omega, by omega, fun H9 cB wB s9 hcB kcB => ⟨_, _, rfl, ?_⟩⟩⟩
    have s89 := s8.trans s9
    have hcA9 : SqT K H9 cA wA := .inl (.inl (s89 _ _ hcA))
    have hcB9 : SqT K H9 cB wB := .inl (.inl hcB)
    have kcA9 := kcA.up (.of (K := K) s89)
    have lwA := kcA.len
    have lwB := kcB.len
    refine ⟨.ref cA, rfl, .ref cB, rfl, cA, cB, wA, wB, mkRuns (bks xs), mkRuns (bks ys), l + 1, rfl, hcA9, kcA9, hcB9, kcB, ob2, pb2, by omega, ob4, pb4, fun H10 t2 lf2 rt2 s10 ht2 k1 k2 k3 k4 k5 k6 => ?_⟩
    refine ⟨t2, _, rfl, .inl (.inl ht2), rfl, _, _, rfl, _, _, rfl, rfl, ?_⟩
    have s410 := s47.trans (s89.trans s10)
    refine ⟨.ref cA, rfl, cA, wA, rfl, .inr (sameT s10 hcA9), .ref cB, rfl, cB, wB, rfl, .inr (sameT s10 hcB9), _, _, rfl, _, rfl, _, _, rfl, rfl, _, rfl, _, _, rfl, rfl, 2, _, rfl, rfl, .inl ⟨by decide, by decide⟩, _, rfl, _, 26, rfl, rfl, _, _, rfl, rfl, _, rfl, ite2 (fun ez => ?_) (fun ez => ?_)⟩
    · exfalso
      have hz := of_decide_eq_true ez
      obtain ⟨Xb, Yb, Yb', Zb, q1, q2, q3, q4⟩ := blocks_near (c := c) (m := m) (m' := m') (e := e) (l := l) (by rw [← ex]; exact n2) (by rw [← ey]; exact n2') (by rw [← ex]; exact okx) (by rw [← ex]; exact unx) (by rw [← ex]; exact ltx)
      rw [← ex] at q1
      rw [← ey] at q2
      obtain ⟨Pg, Tg, hPT⟩ := grp_ends Xb Zb
      obtain ⟨u1, v1, v2⟩ := hPT Yb
      obtain ⟨u2, v3, v4⟩ := hPT Yb'
      have ea : mkRuns (bks xs) = Pg.map mkRun ++ u1.map mkRun ++ Tg.map mkRun := by
        show (grp ((pieces xs).map fun z => Nd.blk (pce xs z))).map mkRun = _
        rw [q1, v1, List.map_append, List.map_append]
      have eb : mkRuns (bks ys) = Pg.map mkRun ++ u2.map mkRun ++ Tg.map mkRun := by
        show (grp ((pieces ys).map fun z => Nd.blk (pce ys z))).map mkRun = _
        rw [q2, v3, List.map_append, List.map_append]
      have cnt := ends_count ea eb k1 k3 k4 k6
      rw [List.length_map, List.length_map] at cnt
      rw [emax, emax, lu, lw, lwA, lwB] at hz
      omega
    · exact ⟨_, _, _, _, _, _, _, _, _, rfl, b13.trans (Same.but s410), (pot_same p3 s410).le (by omega)⟩
end
end C82

set_option Elab.async false
set_option linter.all false
set_option maxRecDepth 100000
namespace C82
open PySem PySem.Spec PyProof.Rows L2 Loc RZ
set_option maxHeartbeats 0 in
theorem all_mk {l : PySem.W.OpenLaw} {w : World} {K : PySem.W.Frag} {h : Heap} {mg : Str → Option Value} {fa : Addr} (X : K.In h) (G : h.Ns mainGlobals mg) (hfa : mg "law" = some (.ref fa))
    {f0 : Addr} {od0 an0 : Option Addr} {sl0 : Array (Option Value)} {oc0 kV0 dc0 pm0 cd0 ct0 : Value}
    (a0 : PySem.W.nsIn K mainGlobals "is_run" = some (some (.ref f0)))
    (l0 : K.lookup f0 = some ⟨oc0, od0, .func (PySem.W.fnOf "is_run" "is_run" (defArgs sIsRun) (defBody sIsRun) (defScope sIsRun) .none kV0 dc0 pm0 an0 cd0 ct0), sl0⟩)
    (c0 : PySem.W.codeIn K cd0 "is_run" = true) (k0 : PySem.W.keepIn K (.ref f0) = true)
    {f1 : Addr} {od1 an1 : Option Addr} {sl1 : Array (Option Value)} {oc1 kV1 dc1 pm1 cd1 ct1 : Value}
    (a1 : PySem.W.nsIn K mainGlobals "is_block" = some (some (.ref f1)))
    (l1 : K.lookup f1 = some ⟨oc1, od1, .func (PySem.W.fnOf "is_block" "is_block" (defArgs sIsBlk) (defBody sIsBlk) (defScope sIsBlk) .none kV1 dc1 pm1 an1 cd1 ct1), sl1⟩)
    (c1 : PySem.W.codeIn K cd1 "is_block" = true) (k1 : PySem.W.keepIn K (.ref f1) = true)
    {f2 : Addr} {od2 an2 : Option Addr} {sl2 : Array (Option Value)} {oc2 kV2 dc2 pm2 cd2 ct2 : Value}
    (a2 : PySem.W.nsIn K mainGlobals "run_of" = some (some (.ref f2)))
    (l2 : K.lookup f2 = some ⟨oc2, od2, .func (PySem.W.fnOf "run_of" "run_of" (defArgs sRunOf) (defBody sRunOf) (defScope sRunOf) .none kV2 dc2 pm2 an2 cd2 ct2), sl2⟩)
    (c2 : PySem.W.codeIn K cd2 "run_of" = true) (k2 : PySem.W.keepIn K (.ref f2) = true)
    {f3 : Addr} {od3 an3 : Option Addr} {sl3 : Array (Option Value)} {oc3 kV3 dc3 pm3 cd3 ct3 : Value}
    (a3 : PySem.W.nsIn K mainGlobals "text_of" = some (some (.ref f3)))
    (l3 : K.lookup f3 = some ⟨oc3, od3, .func (PySem.W.fnOf "text_of" "text_of" (defArgs sText) (defBody sText) (defScope sText) .none kV3 dc3 pm3 an3 cd3 ct3), sl3⟩)
    (c3 : PySem.W.codeIn K cd3 "text_of" = true) (k3 : PySem.W.keepIn K (.ref f3) = true)
    {f4 : Addr} {od4 an4 : Option Addr} {sl4 : Array (Option Value)} {oc4 kV4 dc4 pm4 cd4 ct4 : Value}
    (a4 : PySem.W.nsIn K mainGlobals "first_marks" = some (some (.ref f4)))
    (l4 : K.lookup f4 = some ⟨oc4, od4, .func (PySem.W.fnOf "first_marks" "first_marks" (defArgs sFirst) (defBody sFirst) (defScope sFirst) .none kV4 dc4 pm4 an4 cd4 ct4), sl4⟩)
    (c4 : PySem.W.codeIn K cd4 "first_marks" = true) (k4 : PySem.W.keepIn K (.ref f4) = true)
    {f5 : Addr} {od5 an5 : Option Addr} {sl5 : Array (Option Value)} {oc5 kV5 dc5 pm5 cd5 ct5 : Value}
    (a5 : PySem.W.nsIn K mainGlobals "_first_mark" = some (some (.ref f5)))
    (l5 : K.lookup f5 = some ⟨oc5, od5, .func (PySem.W.fnOf "_first_mark" "_first_mark" (defArgs sFM) (defBody sFM) (defScope sFM) .none kV5 dc5 pm5 an5 cd5 ct5), sl5⟩)
    (c5 : PySem.W.codeIn K cd5 "_first_mark" = true) (k5 : PySem.W.keepIn K (.ref f5) = true)
    {f6 : Addr} {od6 an6 : Option Addr} {sl6 : Array (Option Value)} {oc6 kV6 dc6 pm6 cd6 ct6 : Value}
    (a6 : PySem.W.nsIn K mainGlobals "_first_unlike" = some (some (.ref f6)))
    (l6 : K.lookup f6 = some ⟨oc6, od6, .func (PySem.W.fnOf "_first_unlike" "_first_unlike" (defArgs sFU) (defBody sFU) (defScope sFU) .none kV6 dc6 pm6 an6 cd6 ct6), sl6⟩)
    (c6 : PySem.W.codeIn K cd6 "_first_unlike" = true) (k6 : PySem.W.keepIn K (.ref f6) = true)
    {f7 : Addr} {od7 an7 : Option Addr} {sl7 : Array (Option Value)} {oc7 kV7 dc7 pm7 cd7 ct7 : Value}
    (a7 : PySem.W.nsIn K mainGlobals "_code_at" = some (some (.ref f7)))
    (l7 : K.lookup f7 = some ⟨oc7, od7, .func (PySem.W.fnOf "_code_at" "_code_at" (defArgs sCodeAt) (defBody sCodeAt) (defScope sCodeAt) .none kV7 dc7 pm7 an7 cd7 ct7), sl7⟩)
    (c7 : PySem.W.codeIn K cd7 "_code_at" = true) (k7 : PySem.W.keepIn K (.ref f7) = true)
    {f8 : Addr} {od8 an8 : Option Addr} {sl8 : Array (Option Value)} {oc8 kV8 dc8 pm8 cd8 ct8 : Value}
    (a8 : PySem.W.nsIn K mainGlobals "next_marks" = some (some (.ref f8)))
    (l8 : K.lookup f8 = some ⟨oc8, od8, .func (PySem.W.fnOf "next_marks" "next_marks" (defArgs sNext) (defBody sNext) (defScope sNext) .none kV8 dc8 pm8 an8 cd8 ct8), sl8⟩)
    (c8 : PySem.W.codeIn K cd8 "next_marks" = true) (k8 : PySem.W.keepIn K (.ref f8) = true)
    {f9 : Addr} {od9 an9 : Option Addr} {sl9 : Array (Option Value)} {oc9 kV9 dc9 pm9 cd9 ct9 : Value}
    (a9 : PySem.W.nsIn K mainGlobals "_next_mark" = some (some (.ref f9)))
    (l9 : K.lookup f9 = some ⟨oc9, od9, .func (PySem.W.fnOf "_next_mark" "_next_mark" (defArgs sNm) (defBody sNm) (defScope sNm) .none kV9 dc9 pm9 an9 cd9 ct9), sl9⟩)
    (c9 : PySem.W.codeIn K cd9 "_next_mark" = true) (k9 : PySem.W.keepIn K (.ref f9) = true)
    {f10 : Addr} {od10 an10 : Option Addr} {sl10 : Array (Option Value)} {oc10 kV10 dc10 pm10 cd10 ct10 : Value}
    (a10 : PySem.W.nsIn K mainGlobals "marks" = some (some (.ref f10)))
    (l10 : K.lookup f10 = some ⟨oc10, od10, .func (PySem.W.fnOf "marks" "marks" (defArgs sMarks) (defBody sMarks) (defScope sMarks) .none kV10 dc10 pm10 an10 cd10 ct10), sl10⟩)
    (c10 : PySem.W.codeIn K cd10 "marks" = true) (k10 : PySem.W.keepIn K (.ref f10) = true)
    {f11 : Addr} {od11 an11 : Option Addr} {sl11 : Array (Option Value)} {oc11 kV11 dc11 pm11 cd11 ct11 : Value}
    (a11 : PySem.W.nsIn K mainGlobals "peaks" = some (some (.ref f11)))
    (l11 : K.lookup f11 = some ⟨oc11, od11, .func (PySem.W.fnOf "peaks" "peaks" (defArgs sPeaks) (defBody sPeaks) (defScope sPeaks) .none kV11 dc11 pm11 an11 cd11 ct11), sl11⟩)
    (c11 : PySem.W.codeIn K cd11 "peaks" = true) (k11 : PySem.W.keepIn K (.ref f11) = true)
    {f12 : Addr} {od12 an12 : Option Addr} {sl12 : Array (Option Value)} {oc12 kV12 dc12 pm12 cd12 ct12 : Value}
    (a12 : PySem.W.nsIn K mainGlobals "cuts" = some (some (.ref f12)))
    (l12 : K.lookup f12 = some ⟨oc12, od12, .func (PySem.W.fnOf "cuts" "cuts" (defArgs sCuts) (defBody sCuts) (defScope sCuts) .none kV12 dc12 pm12 an12 cd12 ct12), sl12⟩)
    (c12 : PySem.W.codeIn K cd12 "cuts" = true) (k12 : PySem.W.keepIn K (.ref f12) = true)
    {f13 : Addr} {od13 an13 : Option Addr} {sl13 : Array (Option Value)} {oc13 kV13 dc13 pm13 cd13 ct13 : Value}
    (a13 : PySem.W.nsIn K mainGlobals "blocks" = some (some (.ref f13)))
    (l13 : K.lookup f13 = some ⟨oc13, od13, .func (PySem.W.fnOf "blocks" "blocks" (defArgs sBlocks) (defBody sBlocks) (defScope sBlocks) .none kV13 dc13 pm13 an13 cd13 ct13), sl13⟩)
    (c13 : PySem.W.codeIn K cd13 "blocks" = true) (k13 : PySem.W.keepIn K (.ref f13) = true)
    {f14 : Addr} {od14 an14 : Option Addr} {sl14 : Array (Option Value)} {oc14 kV14 dc14 pm14 cd14 ct14 : Value}
    (a14 : PySem.W.nsIn K mainGlobals "made_runs" = some (some (.ref f14)))
    (l14 : K.lookup f14 = some ⟨oc14, od14, .func (PySem.W.fnOf "made_runs" "made_runs" (defArgs sMade) (defBody sMade) (defScope sMade) .none kV14 dc14 pm14 an14 cd14 ct14), sl14⟩)
    (c14 : PySem.W.codeIn K cd14 "made_runs" = true) (k14 : PySem.W.keepIn K (.ref f14) = true)
    {f15 : Addr} {od15 an15 : Option Addr} {sl15 : Array (Option Value)} {oc15 kV15 dc15 pm15 cd15 ct15 : Value}
    (a15 : PySem.W.nsIn K mainGlobals "_law_pot" = some (some (.ref f15)))
    (l15 : K.lookup f15 = some ⟨oc15, od15, .func (PySem.W.fnOf "_law_pot" "_law_pot" (defArgs sPot) (defBody sPot) (defScope sPot) .none kV15 dc15 pm15 an15 cd15 ct15), sl15⟩)
    (c15 : PySem.W.codeIn K cd15 "_law_pot" = true) (k15 : PySem.W.keepIn K (.ref f15) = true)
    {f16 : Addr} {od16 an16 : Option Addr} {sl16 : Array (Option Value)} {oc16 kV16 dc16 pm16 cd16 ct16 : Value}
    (a16 : PySem.W.nsIn K mainGlobals "_law_take" = some (some (.ref f16)))
    (l16 : K.lookup f16 = some ⟨oc16, od16, .func (PySem.W.fnOf "_law_take" "_law_take" (defArgs sTake) (defBody sTake) (defScope sTake) .none kV16 dc16 pm16 an16 cd16 ct16), sl16⟩)
    (c16 : PySem.W.codeIn K cd16 "_law_take" = true) (k16 : PySem.W.keepIn K (.ref f16) = true)
    {f17 : Addr} {od17 an17 : Option Addr} {sl17 : Array (Option Value)} {oc17 kV17 dc17 pm17 cd17 ct17 : Value}
    (a17 : PySem.W.nsIn K mainGlobals "_law_of" = some (some (.ref f17)))
    (l17 : K.lookup f17 = some ⟨oc17, od17, .func (PySem.W.fnOf "_law_of" "_law_of" (defArgs sOf) (defBody sOf) (defScope sOf) .none kV17 dc17 pm17 an17 cd17 ct17), sl17⟩)
    (c17 : PySem.W.codeIn K cd17 "_law_of" = true) (k17 : PySem.W.keepIn K (.ref f17) = true)
    {f18 : Addr} {od18 an18 : Option Addr} {sl18 : Array (Option Value)} {oc18 kV18 dc18 pm18 cd18 ct18 : Value}
    (a18 : PySem.W.nsIn K mainGlobals "_law_ground" = some (some (.ref f18)))
    (l18 : K.lookup f18 = some ⟨oc18, od18, .func (PySem.W.fnOf "_law_ground" "_law_ground" (defArgs sGround) (defBody sGround) (defScope sGround) .none kV18 dc18 pm18 an18 cd18 ct18), sl18⟩)
    (c18 : PySem.W.codeIn K cd18 "_law_ground" = true) (k18 : PySem.W.keepIn K (.ref f18) = true)
    {f19 : Addr} {od19 an19 : Option Addr} {sl19 : Array (Option Value)} {oc19 kV19 dc19 pm19 cd19 ct19 : Value}
    (a19 : PySem.W.nsIn K mainGlobals "_law_leaf" = some (some (.ref f19)))
    (l19 : K.lookup f19 = some ⟨oc19, od19, .func (PySem.W.fnOf "_law_leaf" "_law_leaf" (defArgs sLeaf) (defBody sLeaf) (defScope sLeaf) .none kV19 dc19 pm19 an19 cd19 ct19), sl19⟩)
    (c19 : PySem.W.codeIn K cd19 "_law_leaf" = true) (k19 : PySem.W.keepIn K (.ref f19) = true)
    {f20 : Addr} {od20 an20 : Option Addr} {sl20 : Array (Option Value)} {oc20 kV20 dc20 pm20 cd20 ct20 : Value}
    (a20 : PySem.W.nsIn K mainGlobals "_law_row" = some (some (.ref f20)))
    (l20 : K.lookup f20 = some ⟨oc20, od20, .func (PySem.W.fnOf "_law_row" "_law_row" (defArgs sRow) (defBody sRow) (defScope sRow) .none kV20 dc20 pm20 an20 cd20 ct20), sl20⟩)
    (c20 : PySem.W.codeIn K cd20 "_law_row" = true) (k20 : PySem.W.keepIn K (.ref f20) = true)
    {f21 : Addr} {od21 an21 : Option Addr} {sl21 : Array (Option Value)} {oc21 kV21 dc21 pm21 cd21 ct21 : Value}
    (a21 : PySem.W.nsIn K mainGlobals "_law_block" = some (some (.ref f21)))
    (l21 : K.lookup f21 = some ⟨oc21, od21, .func (PySem.W.fnOf "_law_block" "_law_block" (defArgs sBlock) (defBody sBlock) (defScope sBlock) .none kV21 dc21 pm21 an21 cd21 ct21), sl21⟩)
    (c21 : PySem.W.codeIn K cd21 "_law_block" = true) (k21 : PySem.W.keepIn K (.ref f21) = true)
    {f22 : Addr} {od22 an22 : Option Addr} {sl22 : Array (Option Value)} {oc22 kV22 dc22 pm22 cd22 ct22 : Value}
    (a22 : PySem.W.nsIn K mainGlobals "_law_twins" = some (some (.ref f22)))
    (l22 : K.lookup f22 = some ⟨oc22, od22, .func (PySem.W.fnOf "_law_twins" "_law_twins" (defArgs sTwins) (defBody sTwins) (defScope sTwins) .none kV22 dc22 pm22 an22 cd22 ct22), sl22⟩)
    (c22 : PySem.W.codeIn K cd22 "_law_twins" = true) (k22 : PySem.W.keepIn K (.ref f22) = true)
    {f23 : Addr} {od23 an23 : Option Addr} {sl23 : Array (Option Value)} {oc23 kV23 dc23 pm23 cd23 ct23 : Value}
    (a23 : PySem.W.nsIn K mainGlobals "_law_unlike" = some (some (.ref f23)))
    (l23 : K.lookup f23 = some ⟨oc23, od23, .func (PySem.W.fnOf "_law_unlike" "_law_unlike" (defArgs sUnlike) (defBody sUnlike) (defScope sUnlike) .none kV23 dc23 pm23 an23 cd23 ct23), sl23⟩)
    (c23 : PySem.W.codeIn K cd23 "_law_unlike" = true) (k23 : PySem.W.keepIn K (.ref f23) = true)
    {f24 : Addr} {od24 an24 : Option Addr} {sl24 : Array (Option Value)} {oc24 kV24 dc24 pm24 cd24 ct24 : Value}
    (a24 : PySem.W.nsIn K mainGlobals "_law_pool" = some (some (.ref f24)))
    (l24 : K.lookup f24 = some ⟨oc24, od24, .func (PySem.W.fnOf "_law_pool" "_law_pool" (defArgs sPool) (defBody sPool) (defScope sPool) .none kV24 dc24 pm24 an24 cd24 ct24), sl24⟩)
    (c24 : PySem.W.codeIn K cd24 "_law_pool" = true) (k24 : PySem.W.keepIn K (.ref f24) = true)
    {f25 : Addr} {od25 an25 : Option Addr} {sl25 : Array (Option Value)} {oc25 kV25 dc25 pm25 cd25 ct25 : Value}
    (a25 : PySem.W.nsIn K mainGlobals "_law_same" = some (some (.ref f25)))
    (l25 : K.lookup f25 = some ⟨oc25, od25, .func (PySem.W.fnOf "_law_same" "_law_same" (defArgs s__law_same) (defBody s__law_same) (defScope s__law_same) .none kV25 dc25 pm25 an25 cd25 ct25), sl25⟩)
    (c25 : PySem.W.codeIn K cd25 "_law_same" = true) (k25 : PySem.W.keepIn K (.ref f25) = true)
    {f26 : Addr} {od26 an26 : Option Addr} {sl26 : Array (Option Value)} {oc26 kV26 dc26 pm26 cd26 ct26 : Value}
    (a26 : PySem.W.nsIn K mainGlobals "_law_added" = some (some (.ref f26)))
    (l26 : K.lookup f26 = some ⟨oc26, od26, .func (PySem.W.fnOf "_law_added" "_law_added" (defArgs s__law_added) (defBody s__law_added) (defScope s__law_added) .none kV26 dc26 pm26 an26 cd26 ct26), sl26⟩)
    (c26 : PySem.W.codeIn K cd26 "_law_added" = true) (k26 : PySem.W.keepIn K (.ref f26) = true)
    {f27 : Addr} {od27 an27 : Option Addr} {sl27 : Array (Option Value)} {oc27 kV27 dc27 pm27 cd27 ct27 : Value}
    (a27 : PySem.W.nsIn K mainGlobals "_law_out_of" = some (some (.ref f27)))
    (l27 : K.lookup f27 = some ⟨oc27, od27, .func (PySem.W.fnOf "_law_out_of" "_law_out_of" (defArgs s__law_out_of) (defBody s__law_out_of) (defScope s__law_out_of) .none kV27 dc27 pm27 an27 cd27 ct27), sl27⟩)
    (c27 : PySem.W.codeIn K cd27 "_law_out_of" = true) (k27 : PySem.W.keepIn K (.ref f27) = true)
    {f28 : Addr} {od28 an28 : Option Addr} {sl28 : Array (Option Value)} {oc28 kV28 dc28 pm28 cd28 ct28 : Value}
    (a28 : PySem.W.nsIn K mainGlobals "_law_rows_near" = some (some (.ref f28)))
    (l28 : K.lookup f28 = some ⟨oc28, od28, .func (PySem.W.fnOf "_law_rows_near" "_law_rows_near" (defArgs s__law_rows_near) (defBody s__law_rows_near) (defScope s__law_rows_near) .none kV28 dc28 pm28 an28 cd28 ct28), sl28⟩)
    (c28 : PySem.W.codeIn K cd28 "_law_rows_near" = true) (k28 : PySem.W.keepIn K (.ref f28) = true)
    {f29 : Addr} {od29 an29 : Option Addr} {sl29 : Array (Option Value)} {oc29 kV29 dc29 pm29 cd29 ct29 : Value}
    (a29 : PySem.W.nsIn K mainGlobals "_law_spots_right" = some (some (.ref f29)))
    (l29 : K.lookup f29 = some ⟨oc29, od29, .func (PySem.W.fnOf "_law_spots_right" "_law_spots_right" (defArgs s__law_spots_right) (defBody s__law_spots_right) (defScope s__law_spots_right) .none kV29 dc29 pm29 an29 cd29 ct29), sl29⟩)
    (c29 : PySem.W.codeIn K cd29 "_law_spots_right" = true) (k29 : PySem.W.keepIn K (.ref f29) = true)
    {f30 : Addr} {od30 an30 : Option Addr} {sl30 : Array (Option Value)} {oc30 kV30 dc30 pm30 cd30 ct30 : Value}
    (a30 : PySem.W.nsIn K mainGlobals "law" = some (some (.ref f30)))
    (l30 : K.lookup f30 = some ⟨oc30, od30, .func (PySem.W.fnOf "law" "law" (defArgs sLaw) (defBody sLaw) (defScope sLaw) .none kV30 dc30 pm30 an30 cd30 ct30), sl30⟩)
    (c30 : PySem.W.codeIn K cd30 "law" = true) (k30 : PySem.W.keepIn K (.ref f30) = true)
    (z0 : PySem.W.nsIn K mainGlobals "abs" = some none)
    (z1 : PySem.W.nsIn K mainGlobals "any" = some none)
    (z2 : PySem.W.nsIn K mainGlobals "int" = some none)
    (z3 : PySem.W.nsIn K mainGlobals "isinstance" = some none)
    (z4 : PySem.W.nsIn K mainGlobals "len" = some none)
    (z5 : PySem.W.nsIn K mainGlobals "list" = some none)
    (z6 : PySem.W.nsIn K mainGlobals "max" = some none)
    (z7 : PySem.W.nsIn K mainGlobals "min" = some none)
    (z8 : PySem.W.nsIn K mainGlobals "range" = some none)
    (z9 : PySem.W.nsIn K mainGlobals "str" = some none)
    (z10 : PySem.W.nsIn K mainGlobals "tuple" = some none)
    (z11 : PySem.W.nsIn K mainGlobals "zip" = some none)
    {tSIGNS : Tok} (y0 : PySem.W.nsIn K mainGlobals "SIGNS" = some (some (.str "0123456789 ()^" tSIGNS)))
    {tENDED : Tok} (y1 : PySem.W.nsIn K mainGlobals "ENDED" = some (some (.int 14 tENDED)))
    : ∃ fd : FuncData, (∀ (s : Shared) (v : Value), BindsTo s fd ⟨[v], []⟩ [("script", v)]) ∧ ∀ base : Heap, K.In base → base.Ns mainGlobals mg → FnG l.prog w K mg base CX0 24 fa fd ["script"] (spLaw K) := by
  have e := hfa.symm.trans (PySem.W.mg_of X G a30)
  cases e
  have F0 := fun_mk (st := sIsRun) l0 c0 k0
  have b0 := F0.binds (ps := ["value"]) fun _ _ _ _ _ _ us hl => match us, hl with | [_], _ => rfl
  have F1 := fun_mk (st := sIsBlk) l1 c1 k1
  have b1 := F1.binds (ps := ["value"]) fun _ _ _ _ _ _ us hl => match us, hl with | [_], _ => rfl
  have F2 := fun_mk (st := sRunOf) l2 c2 k2
  have b2 := F2.binds (ps := ["node", "count"]) fun _ _ _ _ _ _ us hl => match us, hl with | [_, _], _ => rfl
  have F3 := fun_mk (st := sText) l3 c3 k3
  have b3 := F3.binds (ps := ["node"]) fun _ _ _ _ _ _ us hl => match us, hl with | [_], _ => rfl
  have F4 := fun_mk (st := sFirst) l4 c4 k4
  have b4 := F4.binds (ps := ["row"]) fun _ _ _ _ _ _ us hl => match us, hl with | [_], _ => rfl
  have F5 := fun_mk (st := sFM) l5 c5 k5
  have b5 := F5.binds (ps := ["texts", "place"]) fun _ _ _ _ _ _ us hl => match us, hl with | [_, _], _ => rfl
  have F6 := fun_mk (st := sFU) l6 c6 k6
  have b6 := F6.binds (ps := ["one", "other"]) fun _ _ _ _ _ _ us hl => match us, hl with | [_, _], _ => rfl
  have F7 := fun_mk (st := sCodeAt) l7 c7 k7
  have b7 := F7.binds (ps := ["text", "at"]) fun _ _ _ _ _ _ us hl => match us, hl with | [_, _], _ => rfl
  have F8 := fun_mk (st := sNext) l8 c8 k8
  have b8 := F8.binds (ps := ["some"]) fun _ _ _ _ _ _ us hl => match us, hl with | [_], _ => rfl
  have F9 := fun_mk (st := sNm) l9 c9 k9
  have b9 := F9.binds (ps := ["some", "place"]) fun _ _ _ _ _ _ us hl => match us, hl with | [_, _], _ => rfl
  have F10 := fun_mk (st := sMarks) l10 c10 k10
  have b10 := F10.binds (ps := ["row"]) fun _ _ _ _ _ _ us hl => match us, hl with | [_], _ => rfl
  have F11 := fun_mk (st := sPeaks) l11 c11 k11
  have b11 := F11.binds (ps := ["row"]) fun _ _ _ _ _ _ us hl => match us, hl with | [_], _ => rfl
  have F12 := fun_mk (st := sCuts) l12 c12 k12
  have b12 := F12.binds (ps := ["row"]) fun _ _ _ _ _ _ us hl => match us, hl with | [_], _ => rfl
  have F13 := fun_mk (st := sBlocks) l13 c13 k13
  have b13 := F13.binds (ps := ["row"]) fun _ _ _ _ _ _ us hl => match us, hl with | [_], _ => rfl
  have F14 := fun_mk (st := sMade) l14 c14 k14
  have b14 := F14.binds (ps := ["nodes"]) fun _ _ _ _ _ _ us hl => match us, hl with | [_], _ => rfl
  have F15 := fun_mk (st := sPot) l15 c15 k15
  have b15 := F15.binds (ps := ["script", "k"]) fun _ _ _ _ _ _ us hl => match us, hl with | [_, _], _ => rfl
  have F16 := fun_mk (st := sTake) l16 c16 k16
  have b16 := F16.binds (ps := ["pot", "bound"]) fun _ _ _ _ _ _ us hl => match us, hl with | [_, _], _ => rfl
  have F17 := fun_mk (st := sOf) l17 c17 k17
  have b17 := F17.binds (ps := ["pot", "some"]) fun _ _ _ _ _ _ us hl => match us, hl with | [_, _], _ => rfl
  have F18 := fun_mk (st := sGround) l18 c18 k18
  have b18 := F18.binds (ps := ["node"]) fun _ _ _ _ _ _ us hl => match us, hl with | [_], _ => rfl
  have F19 := fun_mk (st := sLeaf) l19 c19 k19
  have b19 := F19.binds (ps := ["pot"]) fun _ _ _ _ _ _ us hl => match us, hl with | [_], _ => rfl
  have F20 := fun_mk (st := sRow) l20 c20 k20
  have b20 := F20.binds (ps := ["pot", "level", "many"]) fun _ _ _ _ _ _ us hl => match us, hl with | [_, _, _], _ => rfl
  have F21 := fun_mk (st := sBlock) l21 c21 k21
  have b21 := F21.binds (ps := ["pot", "level"]) fun _ _ _ _ _ _ us hl => match us, hl with | [_, _], _ => rfl
  have F22 := fun_mk (st := sTwins) l22 c22 k22
  have b22 := F22.binds (ps := ["level"]) fun _ _ _ _ _ _ us hl => match us, hl with | [_], _ => rfl
  have F23 := fun_mk (st := sUnlike) l23 c23 k23
  have b23 := F23.binds (ps := ["node", "level"]) fun _ _ _ _ _ _ us hl => match us, hl with | [_, _], _ => rfl
  have F24 := fun_mk (st := sPool) l24 c24 k24
  have b24 := F24.binds (ps := ["pot", "level"]) fun _ _ _ _ _ _ us hl => match us, hl with | [_, _], _ => rfl
  have F25 := fun_mk (st := s__law_same) l25 c25 k25
  have b25 := F25.binds (ps := ["row", "other"]) fun _ _ _ _ _ _ us hl => match us, hl with | [_, _], _ => rfl
  have F26 := fun_mk (st := s__law_added) l26 c26 k26
  have b26 := F26.binds (ps := ["row", "more"]) fun _ _ _ _ _ _ us hl => match us, hl with | [_, _], _ => rfl
  have F27 := fun_mk (st := s__law_out_of) l27 c27 k27
  have b27 := F27.binds (ps := ["pot", "some", "many"]) fun _ _ _ _ _ _ us hl => match us, hl with | [_, _, _], _ => rfl
  have F28 := fun_mk (st := s__law_rows_near) l28 c28 k28
  have b28 := F28.binds (ps := ["pot"]) fun _ _ _ _ _ _ us hl => match us, hl with | [_], _ => rfl
  have F29 := fun_mk (st := s__law_spots_right) l29 c29 k29
  have b29 := F29.binds (ps := ["row", "other", "left", "right"]) fun _ _ _ _ _ _ us hl => match us, hl with | [_, _, _, _], _ => rfl
  have F30 := fun_mk (st := sLaw) l30 c30 k30
  have Y : Facts K mg :=
    { fis_run := F0, gis_run := PySem.W.mg_of X G a0, bis_run := b0, fis_block := F1, gis_block := PySem.W.mg_of X G a1, bis_block := b1, frun_of := F2, grun_of := PySem.W.mg_of X G a2, brun_of := b2, ftext_of := F3, gtext_of := PySem.W.mg_of X G a3, btext_of := b3, ffirst_marks := F4, gfirst_marks := PySem.W.mg_of X G a4, bfirst_marks := b4, ffirst_mark := F5, gfirst_mark := PySem.W.mg_of X G a5, bfirst_mark := b5, ffirst_unlike := F6, gfirst_unlike := PySem.W.mg_of X G a6, bfirst_unlike := b6, fcode_at := F7, gcode_at := PySem.W.mg_of X G a7, bcode_at := b7, fnext_marks := F8, gnext_marks := PySem.W.mg_of X G a8, bnext_marks := b8, fnext_mark := F9, gnext_mark := PySem.W.mg_of X G a9, bnext_mark := b9, fmarks := F10, gmarks := PySem.W.mg_of X G a10, bmarks := b10, fpeaks := F11, gpeaks := PySem.W.mg_of X G a11, bpeaks := b11, fcuts := F12, gcuts := PySem.W.mg_of X G a12, bcuts := b12, fblocks := F13, gblocks := PySem.W.mg_of X G a13, bblocks := b13, fmade_runs := F14, gmade_runs := PySem.W.mg_of X G a14, bmade_runs := b14, fl_pot := F15, gl_pot := PySem.W.mg_of X G a15, bl_pot := b15, fl_take := F16, gl_take := PySem.W.mg_of X G a16, bl_take := b16, fl_of := F17, gl_of := PySem.W.mg_of X G a17, bl_of := b17, fl_ground := F18, gl_ground := PySem.W.mg_of X G a18, bl_ground := b18, fl_leaf := F19, gl_leaf := PySem.W.mg_of X G a19, bl_leaf := b19, fl_row := F20, gl_row := PySem.W.mg_of X G a20, bl_row := b20, fl_block := F21, gl_block := PySem.W.mg_of X G a21, bl_block := b21, fl_twins := F22, gl_twins := PySem.W.mg_of X G a22, bl_twins := b22, fl_unlike := F23, gl_unlike := PySem.W.mg_of X G a23, bl_unlike := b23, fl_pool := F24, gl_pool := PySem.W.mg_of X G a24, bl_pool := b24, fl_same := F25, gl_same := PySem.W.mg_of X G a25, bl_same := b25, fl_added := F26, gl_added := PySem.W.mg_of X G a26, bl_added := b26, fl_out_of := F27, gl_out_of := PySem.W.mg_of X G a27, bl_out_of := b27, fl_rows_near := F28, gl_rows_near := PySem.W.mg_of X G a28, bl_rows_near := b28, fl_spots_right := F29, gl_spots_right := PySem.W.mg_of X G a29, bl_spots_right := b29, abs := PySem.W.mg_none_of X G z0, any := PySem.W.mg_none_of X G z1, int := PySem.W.mg_none_of X G z2, isinstance := PySem.W.mg_none_of X G z3, len := PySem.W.mg_none_of X G z4, list := PySem.W.mg_none_of X G z5, max := PySem.W.mg_none_of X G z6, min := PySem.W.mg_none_of X G z7, range := PySem.W.mg_none_of X G z8, str := PySem.W.mg_none_of X G z9, tuple := PySem.W.mg_none_of X G z10, zip := PySem.W.mg_none_of X G z11, SIGNS := PySem.W.mg_of X G y0, ENDED := PySem.W.mg_of X G y1, .. }
  exact ⟨_, fun s v => .of_eq rfl, fun base _ _ => ok_law F30 Y⟩
end C82
open PySem PySem.W PyProof.Rows
set_option maxHeartbeats 0 in
theorem PySem.Challenge.cw_localblocks_k82_whole_rows_with_equal_en_holds : PySem.Challenge.rw_localblocks_k82_whole_rows_with_equal_en.Holds := by
  w_on; o_law; k_head; (case hw => w_witness2)
  k_fill
  refine Loc.walkG (l := PySem.Challenge.rw_localblocks_k82_whole_rows_with_equal_en) (n := 63) (k := 24) (x := "script") (sp := fun K => C82.spLaw K) rfl (by decide) rfl ⟨rfl, by decide, by decide⟩ (fun w h Y => PySem.W.kIn_of Y) ?F (fun K _ a ns hl hS => ⟨a, ns, rfl, hS, hl, fun _ => rfl⟩)
  case F =>
    intro w mg fa h KX G hmg
    refine' C82.all_mk KX G hmg ?a0 ?l0 ?c0 ?k0 ?a1 ?l1 ?c1 ?k1 ?a2 ?l2 ?c2 ?k2 ?a3 ?l3 ?c3 ?k3 ?a4 ?l4 ?c4 ?k4 ?a5 ?l5 ?c5 ?k5 ?a6 ?l6 ?c6 ?k6 ?a7 ?l7 ?c7 ?k7 ?a8 ?l8 ?c8 ?k8 ?a9 ?l9 ?c9 ?k9 ?a10 ?l10 ?c10 ?k10 ?a11 ?l11 ?c11 ?k11 ?a12 ?l12 ?c12 ?k12 ?a13 ?l13 ?c13 ?k13 ?a14 ?l14 ?c14 ?k14 ?a15 ?l15 ?c15 ?k15 ?a16 ?l16 ?c16 ?k16 ?a17 ?l17 ?c17 ?k17 ?a18 ?l18 ?c18 ?k18 ?a19 ?l19 ?c19 ?k19 ?a20 ?l20 ?c20 ?k20 ?a21 ?l21 ?c21 ?k21 ?a22 ?l22 ?c22 ?k22 ?a23 ?l23 ?c23 ?k23 ?a24 ?l24 ?c24 ?k24 ?a25 ?l25 ?c25 ?k25 ?a26 ?l26 ?c26 ?k26 ?a27 ?l27 ?c27 ?k27 ?a28 ?l28 ?c28 ?k28 ?a29 ?l29 ?c29 ?k29 ?a30 ?l30 ?c30 ?k30 ?z0 ?z1 ?z2 ?z3 ?z4 ?z5 ?z6 ?z7 ?z8 ?z9 ?z10 ?z11 ?y0 ?y1
    (case a0 => k_is)
    (case l0 => k_is)
    (case c0 => k_is)
    (case k0 => k_is)
    (case a1 => k_is)
    (case l1 => k_is)
    (case c1 => k_is)
    (case k1 => k_is)
    (case a2 => k_is)
    (case l2 => k_is)
    (case c2 => k_is)
    (case k2 => k_is)
    (case a3 => k_is)
    (case l3 => k_is)
    (case c3 => k_is)
    (case k3 => k_is)
    (case a4 => k_is)
    (case l4 => k_is)
    (case c4 => k_is)
    (case k4 => k_is)
    (case a5 => k_is)
    (case l5 => k_is)
    (case c5 => k_is)
    (case k5 => k_is)
    (case a6 => k_is)
    (case l6 => k_is)
    (case c6 => k_is)
    (case k6 => k_is)
    (case a7 => k_is)
    (case l7 => k_is)
    (case c7 => k_is)
    (case k7 => k_is)
    (case a8 => k_is)
    (case l8 => k_is)
    (case c8 => k_is)
    (case k8 => k_is)
    (case a9 => k_is)
    (case l9 => k_is)
    (case c9 => k_is)
    (case k9 => k_is)
    (case a10 => k_is)
    (case l10 => k_is)
    (case c10 => k_is)
    (case k10 => k_is)
    (case a11 => k_is)
    (case l11 => k_is)
    (case c11 => k_is)
    (case k11 => k_is)
    (case a12 => k_is)
    (case l12 => k_is)
    (case c12 => k_is)
    (case k12 => k_is)
    (case a13 => k_is)
    (case l13 => k_is)
    (case c13 => k_is)
    (case k13 => k_is)
    (case a14 => k_is)
    (case l14 => k_is)
    (case c14 => k_is)
    (case k14 => k_is)
    (case a15 => k_is)
    (case l15 => k_is)
    (case c15 => k_is)
    (case k15 => k_is)
    (case a16 => k_is)
    (case l16 => k_is)
    (case c16 => k_is)
    (case k16 => k_is)
    (case a17 => k_is)
    (case l17 => k_is)
    (case c17 => k_is)
    (case k17 => k_is)
    (case a18 => k_is)
    (case l18 => k_is)
    (case c18 => k_is)
    (case k18 => k_is)
    (case a19 => k_is)
    (case l19 => k_is)
    (case c19 => k_is)
    (case k19 => k_is)
    (case a20 => k_is)
    (case l20 => k_is)
    (case c20 => k_is)
    (case k20 => k_is)
    (case a21 => k_is)
    (case l21 => k_is)
    (case c21 => k_is)
    (case k21 => k_is)
    (case a22 => k_is)
    (case l22 => k_is)
    (case c22 => k_is)
    (case k22 => k_is)
    (case a23 => k_is)
    (case l23 => k_is)
    (case c23 => k_is)
    (case k23 => k_is)
    (case a24 => k_is)
    (case l24 => k_is)
    (case c24 => k_is)
    (case k24 => k_is)
    (case a25 => k_is)
    (case l25 => k_is)
    (case c25 => k_is)
    (case k25 => k_is)
    (case a26 => k_is)
    (case l26 => k_is)
    (case c26 => k_is)
    (case k26 => k_is)
    (case a27 => k_is)
    (case l27 => k_is)
    (case c27 => k_is)
    (case k27 => k_is)
    (case a28 => k_is)
    (case l28 => k_is)
    (case c28 => k_is)
    (case k28 => k_is)
    (case a29 => k_is)
    (case l29 => k_is)
    (case c29 => k_is)
    (case k29 => k_is)
    (case a30 => k_is)
    (case l30 => k_is)
    (case c30 => k_is)
    (case k30 => k_is)
    (case z0 => k_is)
    (case z1 => k_is)
    (case z2 => k_is)
    (case z3 => k_is)
    (case z4 => k_is)
    (case z5 => k_is)
    (case z6 => k_is)
    (case z7 => k_is)
    (case z8 => k_is)
    (case z9 => k_is)
    (case z10 => k_is)
    (case z11 => k_is)
    (case y0 => k_is)
    (case y1 => k_is)


