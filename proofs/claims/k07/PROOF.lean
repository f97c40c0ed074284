import PyProof.Rows.All
import Wide.All
import OpenK.AllK
import Wide.FinOn
import HandS.ForMost
import HandS.Base
import HandS.Call
import HandS.List
import HandS.Comp
import HandS.Ends
import HandS.Words
import PyProof.ReprRoads
import PyProof.ReprLen
import PyProof.ReprText
import HandS.Wide
import HandS.WideBits
import HandS.Style
import HandS.Zip
import HandS.Flow
import PyProof.Rows.RuleB_pow
import PyProof.FitsInt
import PyProof.Rows.StrJoinMade
import HandS.TupAny
import PySem.Challenge.RW_localblocks_k07_other_rounds
set_option Elab.async false
set_option linter.all false
set_option maxRecDepth 100000
namespace Loc
open PySem PySem.Spec PyProof.Rows L2
/-! ### defs that are entered while no repr is under way -/
/-- as FnOk, for such an entry alone -/
structure FnG (P : Program) (w : World) (K : PySem.W.Frag) (mg : Str → Option Value) (base : Heap) (CX : CXT)
    (k : Nat) (f : Addr) (fd : FuncData) (ps : List Str) (sp : Sp) : Prop where
  cnt : ∀ {vs H Q E}, sp vs H Q E → vs.length = ps.length
  go : ∀ {A : Around} {out : List Env} {s : Shared} {H : Hp} {ar : Args} {us : List Value} {vs : List V} {Q : VK} {E : XK},
    A.guards = some [] → Room k A → Env0 P w K mg base A out s H → BindsTo s fd ar (ps.zip us) → Vals vs us → sp vs H Q E →
    codeAny (model P w) A (.call (.ref f) ar) (CR CX out P w H s Q E) s
section
variable {P : Program} {w : World} {K : PySem.W.Frag} {mg : Str → Option Value} {base : Heap} {CX : CXT} {k : Nat} {f : Addr} {fd : FuncData} {ps : List Str} {sp : Sp}
theorem FnG.of (F : FnOk P w K mg base CX k f fd ps sp) : FnG P w K mg base CX k f fd ps sp :=
  ⟨fun h => F.len _ _ _ _ h, fun _ hr he hb hv hs => F.run _ _ _ _ _ _ _ _ _ hr he hb hv hs⟩
theorem FnG.up {j : Nat} (F : FnG P w K mg base CX j f fd ps sp) (h : j ≤ k) : FnG P w K mg base CX k f fd ps sp :=
  ⟨F.cnt, fun g hr he hb hv hs => F.go g (hr.mono h) he hb hv hs⟩
/-- a def by its body, entered while no repr is under way -/
theorem fun_okG {x qual : Str} {st : Stmt} {N : List Str} (F : Fun K x qual st f fd) (S : FnScope N ps (defScope st)) (len : ∀ vs H Q E, sp vs H Q E → vs.length = ps.length)
    (hb : ∀ (cdv : Value) (A : Around) (out : List Env) (s : Shared) (H : Hp) (vs : List V) (Q : VK) (E : XK), A.guards = some [] →
      Room k (A.deeper (envOfC qual (defScope st) s.heap.objs.size f cdv)) → sp vs H Q E →
      ∃ t, PSs (cxOf CX P w K mg base N qual (defScope st) f cdv A out s H E).nox (defBody st) t ∧ t { nx := fun _ H' => Q .non H', rt := Q } (start N vs) H) :
    FnG P w K mg base CX (k + 1) f fd ps sp := by
  refine ⟨fun h => len _ _ _ _ h, fun {A out s H ar us vs Q E} hg hr e0 hbd r hsp => ?_⟩
  obtain ⟨oc, od, kV, doc, pm, an, cdv, ct, osl, rfl, lk, hcd⟩ := F.ex
  obtain ⟨t, ht, hq⟩ := hb cdv A out s H vs Q E hg (hr.deeper _) hsp
  have KX : K.In s.heap := e0.mod.kin.keeps fun b o e => (e0.bs b o e).1
  have lim : s.heap.NoLimit := e0.mod.nolimit.keeps fun b o e => (e0.bs b o e).1
  have kinds : ∀ y ∈ ps.zip us, (defScope st).names.lookup y.1 = some .local ∨ ((defScope st).names.lookup y.1 = some .cell ∧
      ((cellsFrom (s.heap.objs.size + 1) (defScope st).names []).lookup y.1).isSome = true) := by
    rintro ⟨n, v⟩ hy
    exact (S.par n (List.of_mem_zip hy).1).elim .inl fun q => .inr ⟨q, PySem.W.cellsFrom_some _ _ _ (.inl q)⟩
  refine codeAny_call_function hr.depth (KX _ _ lk) rfl S.co S.gen rfl (PySem.W.codeRec_of KX hcd) (hbd _ _ _ _ ?_)
  refine wpAny_newFunctionEnv_cells S.kind kinds fun env he s1 x => ?_
  subst he
  refine ⟨lim.keeps x.toInCall.keep, codeAny_func ?_⟩
  have I := inv_start (CX := CX) (E := E) (P := P) (w := w) S hr.hd e0 (len _ _ _ _ hsp) r x
  refine wpAny_mono (ht.nox.run [] s1 (start N vs) H _ I hq) (fun fl s' hs => ?_) fun _ _ hs => hs
  cases fl with
  | ret u => exact let ⟨v, σ', H', J, rv, q⟩ := hs; ⟨v, H', J.os, J.bare, J.base, J.hok, rv, q⟩
  | next => exact let ⟨σ', H', J, q⟩ := hs; ⟨V.non, H', J.os, J.bare, J.base, J.hok, rfl, q⟩
  | brk => exact let ⟨_, _, _, q⟩ := hs; q.elim
  | cont => exact let ⟨_, _, _, q⟩ := hs; q.elim
end
/-! ### repr of nested data -/
/-- repr(v), v nested data (no dict) that a heap bears -/
def rRep (K : PySem.W.Frag) : List V → Hp → VK → Prop := fun xs H Q => ∃ a d, xs = [.ref a] ∧ Dp K H (.ref a) d ∧
  d.showable = true ∧ d.hasDict = false ∧ d.depth ≤ 62 ∧ d.shown.length ≤ sizeLine ∧ Q (.str d.shown) H
theorem call_rep {X : Cx} {k : Nat} (hr : Room k X.A) (hg : X.A.guards = some []) : CallR X (.builtin "repr") (rRep X.K) := by
  intro pins s σ H xs us Q I r h
  obtain ⟨a, d, rfl, hd, h1, h2, h3, h4, q⟩ := h
  obtain ⟨u, rfl, ru⟩ := vals1 r
  cases ru
  obtain ⟨as, rd⟩ := Dp.reads I d _ _ hd rfl
  have hu := hr.units
  exact repr_of_reads' rd h1 (PyData.noDict_hsm h2) hg (by omega) (fun _ _ e => e) (fun h' u tk hk => ⟨.str d.shown, H, I.kept hk, ⟨u, rfl⟩, q⟩) h4
/-! ### nested data that a heap bears -/
theorem DpAll.ints {K : PySem.W.Frag} {H : Hp} : ∀ ns : List Int, DpAll K H (ns.map V.int) (ns.map PyData.int)
  | [] => .nil
  | n :: r => .cons (.int n) (DpAll.ints r)
mutual
theorem Dp.same {K : PySem.W.Frag} {H H' : Hp} (e : ∀ a, (∀ xs, SqL K H a xs → SqL K H' a xs) ∧ ∀ xs, SqT K H a xs → SqT K H' a xs) : ∀ {v : V} {d : PyData}, Dp K H v d → Dp K H' v d
  | _, _, .non => .non
  | _, _, .bl b => .bl b
  | _, _, .int i => .int i
  | _, _, .str x => .str x
  | _, _, .lst h t => .lst ((e _).1 _ h) (DpAll.same e t)
  | _, _, .tup h t => .tup ((e _).2 _ h) (DpAll.same e t)
theorem DpAll.same {K : PySem.W.Frag} {H H' : Hp} (e : ∀ a, (∀ xs, SqL K H a xs → SqL K H' a xs) ∧ ∀ xs, SqT K H a xs → SqT K H' a xs) : ∀ {vs : List V} {ds : List PyData}, DpAll K H vs ds → DpAll K H' vs ds
  | _, _, .nil => .nil
  | _, _, .cons h t => .cons (Dp.same e h) (DpAll.same e t)
end
end Loc

set_option Elab.async false
set_option linter.all false
set_option maxRecDepth 100000
namespace Loc
open PySem PySem.Spec PyProof.Rows L2
/-- the law's call, its def entered while no repr is under way -/
theorem callG {P : Program} {w : World} {K : PySem.W.Frag} {mg mb : Str → Option Value} {k : Nat} {fa a : Addr} {fd : FuncData} {x : Str} {sp : Sp} {s : Shared} {vs : List Value} {ns : List Int}
    (KX : K.In s.heap) (g1 : s.heap.Ns mainGlobals mg) (g2 : s.heap.Ns builtinsNs mb) (g3 : ∀ x : Str, x ≠ "__name__" → mb x = bootBuiltins x) (lim : s.heap.NoLimit) (gs : s.gens = #[])
    (ha : s.heap.get? a = some { cls := .type "list", data := .seq vs.toArray }) (hi : IntsAre vs ns) (hl : ns.length ≤ sizeLine) (hr : Room k callerA)
    (F : ∀ base : Heap, K.In base → base.Ns mainGlobals mg → FnG P w K mg base CX0 k fa fd [x] sp) (hb : ∀ (s : Shared) (u : Value), BindsTo s fd ⟨[u], []⟩ [(x, u)])
    (hsp : ∀ H : Hp, SqL K H a (ns.map V.int) → sp [.ref a] H (fun v _ => v = .bl true) fun _ _ _ => False) :
    codeAny (model P w) callerA (.call (.ref fa) ⟨[.ref a], []⟩) (fun r s' => r = .ok (.ret (.bool true)) ∧ OldK s.heap s'.heap ∧ s'.os = s.os ∧ AllBare s'.gens) s := by
  have rv := vals_ints hi
  have ln := hi.length
  -- H tracks at most the script, and that only where the module has not written it
  have main : ∀ H : Hp, (∀ b, H b = none ∨ (b = a ∧ K.lookup a = none ∧ ∃ o xs, H b = some (.frz o (.lst xs)))) → SqL K H a (ns.map V.int) → HOk P w H s.heap →
      codeAny (model P w) callerA (.call (.ref fa) ⟨[.ref a], []⟩) (fun r s' => r = .ok (.ret (.bool true)) ∧ OldK s.heap s'.heap ∧ s'.os = s.os ∧ AllBare s'.gens) s := by
    intro H only sq hok
    have nsOf : ∀ {b : Addr} {m : Str → Option Value}, s.heap.Ns b m → (hidT s.heap H).Ns b m := by
      rintro b m ⟨o, es, ep, e, d, r⟩
      refine ⟨o, es, ep, hidT_get e ?_, d, r⟩
      rcases only b with z | ⟨rfl, _, _⟩
      · exact z
      · rw [ha] at e
        cases e
        exact Data.noConfusion d
    have kb : K.In (hidT s.heap H) := fun b o e => hidT_get (KX b o e) (by
      rcases only b with z | ⟨rfl, z, _⟩
      · exact z
      · rw [z] at e
        cases e)
    obtain ⟨mc, l1, l2⟩ := lim
    have e0 : Env0 P w K mg (hidT s.heap H) callerA [] s H :=
      { frames := rfl, mod := ⟨kb, nsOf g1, ⟨mb, nsOf g2, g3⟩, ⟨mc, nsOf l1, l2⟩⟩, bs := fun _ _ e => of_hidT e, bsz := Nat.le_of_eq (hidT_size _ _), funs := trivial,
        frf := fun b hb => absurd (show b ∈ ([] : List Addr) from hb) List.not_mem_nil, hok := hok, bare := .of_eq gs }
    refine codeAny_mono ((F _ kb (nsOf g1)).go (us := [.ref a]) (vs := [.ref a]) rfl hr e0 (hb s (.ref a)) (.cons rfl .nil) (hsp H sq)) fun r s' h => ?_
    match r, h with
    | .error e, h => exact h.elim
    | .ok .next, h => exact h.elim
    | .ok .brk, h => exact h.elim
    | .ok .cont, h => exact h.elim
    | .ok (.ret u), ⟨v, H', os, bare, un, hok', rel, q⟩ =>
      have q' : v = .bl true := q
      subst q'
      have ru : u = Value.bool true := rel
      subst ru
      refine ⟨rfl, OldK.of_keep fun b o e => ?_, os, bare⟩
      rcases only b with z | ⟨_, _, ob, xs, z⟩
      · exact un.keep b o e z (fun m => absurd (show b ∈ ([] : List Addr) from m) List.not_mem_nil) List.not_mem_nil
      · have o1 := (hok b _ z).1
        have o2 := (hok' b _ (un.frzs b ob _ z)).1
        rw [e] at o1
        cases o1
        exact o2
  cases hk : K.lookup a with
  | some o =>
    have e := KX a o hk
    rw [ha] at e
    cases e
    refine main (fun _ => none) (fun _ => .inl rfl) (.inr ⟨_, vs.toArray, _, hk, rfl, rfl, rfl, ?_, by simpa using rv⟩) fun b u z => nomatch (show (none : Option HO) = some u from z)
    rw [List.size_toArray, ln]
    exact hl
  | none =>
    refine main (fun b => if b = a then some (.frz { cls := .type "list", data := .seq vs.toArray } (.lst (ns.map V.int))) else none) (fun b => ?_) (.inl (.inr ⟨_, if_pos rfl⟩)) fun b u z => ?_
    · by_cases e : b = a
      · exact .inr ⟨e, hk, _, _, if_pos e⟩
      · exact .inl (if_neg e)
    · by_cases e : b = a
      · have z' := (if_pos e).symm.trans z
        cases z'
        rw [e]
        exact ⟨ha, by rw [List.length_map]; exact hl, vs, _, rv, ha⟩
      · have z' := (if_neg e).symm.trans z
        cases z'
/-- the goal that k_head leaves, from such a promise of the law's def -/
theorem walkG {l : PySem.W.OpenLaw} {n k : Nat} {q : Program} {loose : List Str} {XP : (Str → Option Value) → Heap → Prop} {YP : World → Heap → Prop} {d : DefRec} {K : Params → PySem.W.Frag} {sp : PySem.W.Frag → Sp} {x : Str}
    (hn : l.most = some n) (hz : n ≤ sizeLine) (hd : d.params.defaults = []) (hr : Room k callerA) (hY : ∀ (w : World) (h : Heap), YP w h → (K w.params).In h)
    (F : ∀ (w : World) (mg : Str → Option Value) (fa : Addr) (h : Heap), (K w.params).In h → h.Ns mainGlobals mg → mg d.name = some (.ref fa) →
      ∃ fd : FuncData, (∀ (s : Shared) (u : Value), BindsTo s fd ⟨[u], []⟩ [(x, u)]) ∧
        ∀ base : Heap, (K w.params).In base → base.Ns mainGlobals mg → FnG l.prog w (K w.params) mg base CX0 k fa fd [x] (sp (K w.params)))
    (hsp : ∀ (K : PySem.W.Frag) (H : Hp) (a : Addr) (ns : List Int), ns.length ≤ n → SqL K H a (ns.map V.int) → sp K [.ref a] H (fun v _ => v = .bl true) fun _ _ _ => False) :
    PySem.W.WalkO q loose XP YP l.row.toRowW d [] (fun f vs => PySem.call f vs) := by
  refine Att.attach_call hn hd fun w s0 s1 mg mb fa o pm cd doc a vs ns G Y ho hd' hcd hmg hobj hints hlen hg => ?_
  obtain ⟨fd, hb, hF⟩ := F w mg fa _ (hY w _ Y) G.T.g hmg
  exact callG (hY w _ Y) G.T.g G.T.b G.T.builtins G.T.nolimit hg hobj hints (Nat.le_trans hlen hz) hr hF hb fun H hS => hsp _ H a ns hlen hS
end Loc

set_option Elab.async false
set_option linter.all false
set_option maxRecDepth 100000
/-! ### the heap but for one object -/
namespace Loc
open PySem PySem.Spec PyProof.Rows L2
/-- all but what stands at p is as it was -/
def But (p : Addr) (H H' : Hp) : Prop := ∀ b o, b ≠ p → H b = some o → H' b = some o
theorem But.refl (p : Addr) (H : Hp) : But p H H := fun _ _ _ h => h
theorem But.trans {p : Addr} {H H1 H2 : Hp} (a : But p H H1) (b : But p H1 H2) : But p H H2 := fun c o n h => b c o n (a c o n h)
theorem But.set {p : Addr} {H : Hp} {o : HO} : But p H (upd H p o) := fun b _ n h => by rw [upd_ne n]; exact h
theorem But.new {p q : Addr} {H : Hp} {o : HO} (h : H q = none) : But p H (upd H q o) := fun b _ _ e => by rw [upd_ne (ne_of_none e h)]; exact e
theorem But.at {p b : Addr} {H H' : Hp} {o : HO} (e : But p H H') (n : b ≠ p) (h : H b = some o) : H' b = some o := e b o n h
theorem But.sql {p a : Addr} {K : PySem.W.Frag} {H H' : Hp} {xs : List V} (e : But p H H') (n : a ≠ p) (h : SqL K H a xs) : SqL K H' a xs := by
  rcases h with (h | ⟨o, h⟩) | h
  · exact .inl (.inl (e _ _ n h))
  · exact .inl (.inr ⟨o, e _ _ n h⟩)
  · exact .inr h
/-- a tuple is no list -/
theorem But.sqt {p a : Addr} {K : PySem.W.Frag} {H H' : Hp} {xs ys : List V} (e : But p H H') (hp : H p = some (.lst ys)) (h : SqT K H a xs) : SqT K H' a xs := by
  rcases h with (h | ⟨o, h⟩) | h
  · exact .inl (.inl (e _ _ (ne_of h hp (by intro z; cases z)) h))
  · exact .inl (.inr ⟨o, e _ _ (ne_of h hp (by intro z; cases z)) h⟩)
  · exact .inr h
/-! ### the pot that the law draws from -/
/-- a pot's three numbers, drawn from at most c times -/
def PotO (o : HO) (c : Nat) : Prop := ∃ own mix cnt : Int, o = .lst [.int own, .int mix, .int cnt] ∧ 0 ≤ own ∧ own < 2 ^ 1000 ∧ 0 ≤ mix ∧ mix < 2305843009213693952 ∧ 0 ≤ cnt ∧ cnt ≤ c
def Pot (H : Hp) (p : Addr) (c : Nat) : Prop := ∃ o, H p = some o ∧ PotO o c
theorem PotO.le {o : HO} {c d : Nat} (h : PotO o c) (l : c ≤ d) : PotO o d := by
  obtain ⟨a, b, e, h1, h2, h3, h4, h5, h6, h7⟩ := h
  exact ⟨a, b, e, h1, h2, h3, h4, h5, h6, by omega⟩
theorem Pot.le {H : Hp} {p : Addr} {c d : Nat} (h : Pot H p c) (l : c ≤ d) : Pot H p d := let ⟨o, e, q⟩ := h; ⟨o, e, q.le l⟩
theorem Pot.ls {H : Hp} {p : Addr} {c : Nat} (h : Pot H p c) : ∃ ys, H p = some (.lst ys) := by
  obtain ⟨o, e, a, b, z, rfl, _⟩ := h
  exact ⟨_, e⟩
theorem Pot.new {H : Hp} {p q : Addr} {c : Nat} {o : HO} (h : Pot H p c) (n : H q = none) : Pot (upd H q o) p c := by
  obtain ⟨x, e, r⟩ := h
  exact ⟨x, by rw [upd_ne (ne_of_none e n)]; exact e, r⟩
theorem Pot.oth {H : Hp} {p q : Addr} {c : Nat} {o : HO} (h : Pot H p c) (n : p ≠ q) : Pot (upd H q o) p c := by
  obtain ⟨x, e, r⟩ := h
  exact ⟨x, by rw [upd_ne n]; exact e, r⟩
theorem Pot.put {H : Hp} {p : Addr} {c : Nat} {o : HO} (h : PotO o c) : Pot (upd H p o) p c := ⟨o, upd_same, h⟩

/-- script: the script; k: a small number -/
def spPot (K : PySem.W.Frag) : Sp := fun vs H Q _ => ∃ (a : Addr) (ns : List Int) (k : Nat), vs = [.ref a, .int k] ∧ SqL K H a (ns.map V.int) ∧ ns.length ≤ 1000 ∧ k ≤ 1000 ∧
  ∀ p o, H p = none → PotO o 0 → Q (.ref p) (upd H p o)
def spTake : Sp := fun vs H Q _ => ∃ (p : Addr) (b : Int) (c : Nat), vs = [.ref p, .int b] ∧ Pot H p c ∧ c < 1000000 ∧ 0 < b ∧ b < 2 ^ 1000 ∧
  ∀ (d : Int) H', 0 ≤ d → d < b → But p H H' → Pot H' p (c + 1) → Q (.int d) H'
def spOf : Sp := fun vs H Q _ => ∃ (p a : Addr) (xs : List V) (c : Nat), vs = [.ref p, .ref a] ∧ Pot H p c ∧ c < 1000000 ∧ a ≠ p ∧ H a = some (.lst xs) ∧ xs ≠ [] ∧ xs.length ≤ 1000 ∧
  ∀ (j : Nat) (x : V) H', xs[j]? = some x → But p H H' → Pot H' p (c + 1) → Q x H'

/-- ** of a great number -/
def CPowW (i j : Int) : Prop := 0 ≤ j ∧ (Builtin.Int.intBits i : Int) * j ≤ 2 ^ 27
theorem op_powW {X : Cx} : OpR X (binaryOp .Pow) (rI CPowW fun i j => .int (i ^ j.toNat)) := opI fun _ _ _ _ _ _ _ hc q => pow_int hc.1 hc.2 q
theorem pow60 : CPowW ((10 : Int) ^ (60 : Int).toNat) 5 := ⟨by decide, by decide +kernel⟩
theorem small_line {n : Nat} (h : n ≤ 100000) : n ≤ sizeLine := Nat.le_trans h (by decide)
theorem small_line' {n : Nat} (h : n ≤ 100000) : n < sizeLine := Nat.lt_of_le_of_lt h (by decide)
end Loc
namespace Loc
open PySem PySem.Spec PyProof.Rows L2
/-- two ways that meet in what S says of the value -/
theorem joinIf {b : Bool} {ta tb : TE} {σ : L2.St} {H : Hp} {Q : VK} (S : VK) (key : ∀ v H', S v H' → Q v H') (h1 : b = true → ∀ R : VK, (∀ v H', S v H' → R v H') → ta σ H R)
    (h2 : b = false → ∀ R : VK, (∀ v H', S v H' → R v H') → tb σ H R) : if b = true then ta σ H Q else tb σ H Q := by
  cases b
  · rw [if_neg Bool.false_ne_true]
    exact h2 rfl Q key
  · rw [if_pos rfl]
    exact h1 rfl Q key
theorem mod_pos {a m : Int} (h : 0 < m) : 0 ≤ a % m ∧ a % m < m := ⟨Int.emod_nonneg _ (by omega), Int.emod_lt_of_pos _ h⟩
theorem pow300 : ((10 : Int) ^ (60 : Int).toNat) ^ (5 : Int).toNat < 2 ^ 1000 := by decide +kernel
theorem pow300' : 0 < ((10 : Int) ^ (60 : Int).toNat) ^ (5 : Int).toNat := by decide +kernel
end Loc
namespace Loc
theorem bit_small (b : Bool) : -(2 ^ 64) < (if b = true then (1 : Int) else 0) ∧ (if b = true then (1 : Int) else 0) < 2 ^ 64 := by
  cases b <;> decide
theorem mul_bit {a m : Int} (h : 0 ≤ a ∧ a < m) (b : Bool) : 0 ≤ a * (if b = true then (1 : Int) else 0) ∧ a * (if b = true then (1 : Int) else 0) < m := by
  cases b
  · rw [if_neg Bool.false_ne_true, Int.mul_zero]
    omega
  · rw [if_pos rfl, Int.mul_one]
    exact h
end Loc
namespace Loc
theorem natAbs_lt {b : Int} {n : Nat} (h0 : 0 ≤ b) (h : b < 2 ^ n) : b.natAbs < 2 ^ n := by
  obtain ⟨m, rfl⟩ := Int.eq_ofNat_of_zero_le h0
  rw [← PySem.W.kbt_cast n] at h
  exact Int.ofNat_lt.mp h
theorem div_small {a b : Int} (h0 : 0 ≤ a) (h : 0 < b) : 0 ≤ a / b ∧ a / b ≤ a := ⟨Int.ediv_nonneg h0 (by omega), Int.ediv_le_self b h0⟩
/-- the five numbers that a draw is reckoned with -/
theorem prime_at {n : Int} (h : 0 ≤ n) : ∃ q : Int, L2.atI [L2.V.int 2147483647, .int 2147483629, .int 2147483587, .int 2147483579, .int 2147483563] (n % 5) = some (.int q) ∧ 0 < q ∧ q < 2147483648 := by
  have m := Int.emod_nonneg n (show (5 : Int) ≠ 0 by decide)
  have l := Int.emod_lt_of_pos n (show (0 : Int) < 5 by decide)
  generalize n % 5 = r at m l
  have c : r = 0 ∨ r = 1 ∨ r = 2 ∨ r = 3 ∨ r = 4 := by omega
  rcases c with rfl | rfl | rfl | rfl | rfl
  · exact ⟨2147483647, rfl, by decide, by decide⟩
  · exact ⟨2147483629, rfl, by decide, by decide⟩
  · exact ⟨2147483587, rfl, by decide, by decide⟩
  · exact ⟨2147483579, rfl, by decide, by decide⟩
  · exact ⟨2147483563, rfl, by decide, by decide⟩
/-- what stands under the third power -/
theorem base_small {mix c : Int} (h3 : 0 ≤ mix) (h4 : mix < 2305843009213693952) (h5 : 0 ≤ c) (h6 : c ≤ 1000000) : 0 ≤ mix + 99991 * c * c + 29 ∧ mix + 99991 * c * c + 29 < 2 ^ 64 := by
  have k1 : 0 ≤ c * c := Int.mul_nonneg h5 h5
  have k2 : c * c ≤ 1000000 * 1000000 := Int.mul_le_mul h6 h6 h5 (by decide)
  rw [Int.mul_assoc]
  omega
end Loc
namespace Loc
theorem small_pow {n : Nat} (h : n ≤ 1000) : (n : Int) < 2 ^ 1000 := Int.lt_of_le_of_lt (show (n : Int) ≤ 1000 by omega) (by decide +kernel)
end Loc
namespace Loc
open PySem PySem.Spec PyProof.Rows L2
theorem sameT {K : PySem.W.Frag} {H H' : Hp} {a : Addr} {xs : List V} (e : Same H H') (h : SqT K H a xs) : SqT K H' a xs := by
  rcases h with (h | ⟨o, h⟩) | h
  · exact .inl (.inl (e _ _ h))
  · exact .inl (.inr ⟨o, e _ _ h⟩)
  · exact .inr h
theorem sameN {H : Hp} {p : Addr} {o : HO} (h : H p = none) : Same H (upd H p o) := fun b x e => by rw [upd_ne (ne_of_none e h)]; exact e
/-- a new object is written again -/
theorem sameW {H H' : Hp} {p : Addr} {o : HO} (e : Same H H') (h : H p = none) : Same H (upd H' p o) := fun b x q => by rw [upd_ne (ne_of_none q h)]; exact e b x q
theorem Same.but {H H' : Hp} {p : Addr} (e : Same H H') : But p H H' := fun b o _ h => e b o h
theorem But.same {H H' : Hp} {p : Addr} (e : But p H H') (h : H p = none) : Same H H' := fun b o q => e b o (ne_of_none q h) q
/-- a new object is written again -/
theorem But.wr {p q : Addr} {H H' : Hp} {o : HO} (e : But p H H') (h : H q = none) : But p H (upd H' q o) := fun b x n r => by rw [upd_ne (ne_of_none r h)]; exact e b x n r
theorem small_take {α : Type} {l : List α} {i n : Nat} (h : l.length ≤ n) : (l.take i).length ≤ n := by
  rw [List.length_take]
  omega
theorem line5 {n : Nat} (h : n ≤ 100000) : n < sizeLine := small_line' h
end Loc
namespace Loc
open PySem PySem.Spec PyProof.Rows L2
/-- a list or a tuple -/
def SqA (K : PySem.W.Frag) (H : Hp) (a : Addr) (xs : List V) : Prop := SqL K H a xs ∨ SqT K H a xs
theorem SqA.same {K : PySem.W.Frag} {H H' : Hp} {a : Addr} {xs : List V} (h : SqA K H a xs) (e : Same H H') : SqA K H' a xs := h.imp e.seq (sameT e)
theorem SqA.ix {K : PySem.W.Frag} {H : Hp} {a : Addr} {xs : List V} {i : Int} {v : V} {Q : VK} (h : SqA K H a xs) (e : atI xs i = some v) (q : Q v H) : rIx K (.ref a) (.int i) H Q := by
  rcases h with h | h
  · exact .inl ⟨a, xs, i, v, rfl, rfl, h, e, q⟩
  · exact .inr (.inl ⟨a, xs, i, v, rfl, rfl, h, e, q⟩)
theorem half_pow (x t : Nat) : ((x / 2 ^ t : Nat) : Int) / 2 = ((x / 2 ^ (t + 1) : Nat) : Int) := by
  rw [Nat.pow_succ, ← Nat.div_div_eq_div_mul]
  omega
end Loc
namespace Loc
theorem get_of {α : Type} {l : List α} {i : Nat} (h : i < l.length) : ∃ x, l[i]? = some x := ⟨l[i], List.getElem?_eq_getElem h⟩
end Loc
namespace Loc
theorem take_more {α : Type} {l : List α} {i : Nat} {x : α} (h : l[i]? = some x) : l.take (i + 1) = l.take i ++ [x] := by
  rw [List.take_add_one, h]
  rfl
theorem int_congr {a b : Int} (h : a = b) : L2.V.int a = L2.V.int b := by rw [h]
end Loc
namespace Loc
open PySem PySem.Spec PyProof.Rows L2
/-- a value that is one of those that S tells -/
theorem anyE {te : TE} {σ : L2.St} {H : Hp} {Q : VK} (S : VK) (key : ∀ v H', S v H' → Q v H') (h : ∀ R : VK, (∀ v H', S v H' → R v H') → te σ H R) : te σ H Q := h Q key
theorem anyT {t : TT} {σ : L2.St} {H : Hp} {Q : Bool → Hp → Prop} (S : Bool → Hp → Prop) (key : ∀ b H', S b H' → Q b H') (h : ∀ R : Bool → Hp → Prop, (∀ b H', S b H' → R b H') → t σ H R) : t σ H Q := h Q key
theorem joinS {b : Bool} {t u : TS} {D : Ends} {σ : L2.St} {H : Hp} (S : L2.St → Hp → Prop) (key : ∀ σ' H', S σ' H' → D.nx σ' H')
    (h1 : b = true → ∀ N : L2.St → Hp → Prop, (∀ σ' H', S σ' H' → N σ' H') → t { D with nx := N } σ H)
    (h2 : b = false → ∀ N : L2.St → Hp → Prop, (∀ σ' H', S σ' H' → N σ' H') → u { D with nx := N } σ H) : if b = true then t D σ H else u D σ H := by
  cases b
  · rw [if_neg Bool.false_ne_true]
    exact h2 rfl D.nx key
  · rw [if_pos rfl]
    exact h1 rfl D.nx key
theorem But.free {p q : Addr} {H H' : Hp} {o : HO} (e : But p H H') (hp : H' p = some o) (h : H' q = none) : H q = none := by
  cases z : H q with
  | none => rfl
  | some x =>
    have n : q ≠ p := fun k => by rw [k, hp] at h; cases h
    rw [e q x n z] at h
    cases h
theorem Pot.ex {H : Hp} {p : Addr} {c : Nat} (h : Pot H p c) : ∃ o, H p = some o := let ⟨o, e, _⟩ := h; ⟨o, e⟩
theorem But.freeP {p q : Addr} {H H' : Hp} {c : Nat} (e : But p H H') (hp : Pot H' p c) (h : H' q = none) : H q = none := let ⟨_, k⟩ := hp.ex; e.free k h
theorem Pot.ne {H : Hp} {p q : Addr} {c : Nat} (hp : Pot H p c) (h : H q = none) : q ≠ p := fun z => by
  obtain ⟨o, e⟩ := hp.ex
  rw [z, e] at h
  cases h
/-! lists of ints as data -/
theorem canLay_ints : ∀ ns : List Int, PyData.canLayAll0 (ns.map PyData.int) = true
  | [] => rfl
  | n :: r => by
    show (PyData.canLay0 (.int n) && PyData.canLayAll0 (r.map PyData.int)) = true
    rw [canLay_ints r]
    rfl
theorem depth_ints : ∀ ns : List Int, PyData.depthAll (ns.map PyData.int) ≤ 1
  | [] => by simp [PyData.depthAll]
  | n :: r => by
    have := depth_ints r
    simp only [List.map_cons, PyData.depthAll, PyData.depth]
    omega
theorem shaped_ints (ns : List Int) : SeqAt.shaped (.list (ns.map PyData.int)) = true ∧ SeqAt.shaped (.tuple (ns.map PyData.int)) = true := by
  have d := depth_ints ns
  constructor
  · unfold SeqAt.shaped
    rw [Bool.and_eq_true]
    exact ⟨by simpa [PyData.canLay0] using canLay_ints ns, decide_eq_true (by simp only [PyData.depth]; omega)⟩
  · unfold SeqAt.shaped
    rw [Bool.and_eq_true]
    exact ⟨by simpa [PyData.canLay0] using canLay_ints ns, decide_eq_true (by simp only [PyData.depth]; omega)⟩
/-- xs == [], xs of ints -/
theorem eqv_empty (ns : List Int) : PyData.eqv (.list (ns.map PyData.int)) (.list []) = ns.isEmpty := by
  cases ns <;> simp [PyData.eqv, PyData.eqvAll]
theorem eqv_emptyT (ns : List Int) : PyData.eqv (.tuple (ns.map PyData.int)) (.tuple []) = ns.isEmpty := by
  cases ns <;> simp [PyData.eqv, PyData.eqvAll]
end Loc
namespace Loc
theorem pow_of {d : Int} {n : Nat} (h0 : 0 ≤ d) (h : d ≤ n) : ∃ m : Nat, (1 : Int) * 2 ^ d.toNat = (m : Int) ∧ 0 < m ∧ m ≤ 2 ^ n := by
  refine ⟨2 ^ d.toNat, ?_, Nat.two_pow_pos _, Nat.pow_le_pow_right (by decide) (by omega)⟩
  rw [Int.one_mul, PySem.W.kbt_cast]
end Loc
namespace Loc
open PySem PySem.Spec PyProof.Rows L2
theorem cb1_any {r : List V → Hp → VK → Prop} {te : TE} {σ : L2.St} {H : Hp} {Q : VK} (S : VK) (key : ∀ v H', S v H' → r [v] H' Q) (h : ∀ R : VK, (∀ v H', S v H' → R v H') → te σ H R) : tCB r (tCons te tNil) σ H Q := h _ key
theorem cons_any {te : TE} {tr : TA} {σ : L2.St} {H : Hp} {Q : List V → Hp → Prop} (S : VK) (key : ∀ v H', S v H' → tr σ H' fun vs H2 => Q (v :: vs) H2) (h : ∀ R : VK, (∀ v H', S v H' → R v H') → te σ H R) : tCons te tr σ H Q := h _ key
theorem if_any {T : TT} {ta tb : TE} {σ : L2.St} {H : Hp} {Q : VK} (S : Bool → Hp → Prop) (key : ∀ b H', S b H' → if b = true then ta σ H' Q else tb σ H' Q) (h : ∀ R : Bool → Hp → Prop, (∀ b H', S b H' → R b H') → T σ H R) : tIf T ta tb σ H Q := h _ key
theorem ifs_any {T : TT} {t u : TS} {D : Ends} {σ : L2.St} {H : Hp} (S : Bool → Hp → Prop) (key : ∀ b H', S b H' → if b = true then t D σ H' else u D σ H') (h : ∀ R : Bool → Hp → Prop, (∀ b H', S b H' → R b H') → T σ H R) : tIfS T t u D σ H := h _ key
end Loc
namespace Loc
open PySem PySem.Spec PyProof.Rows L2
theorem cb1_var {r : List V → Hp → VK → Prop} {i : Nat} {σ : L2.St} {H : Hp} {Q : VK} (v : V) (h : σ[i]? = some (some v)) (k : r [v] H Q) : tCB r (tCons (tVar i) tNil) σ H Q := ⟨v, h, k⟩
end Loc

set_option Elab.async false
set_option linter.all false
set_option maxRecDepth 100000
namespace Loc
open PySem PySem.Spec PyProof.Rows L2 RZ
/-! ### repr of a tuple of ints -/
theorem shown_len {n : Nat} (h : n < 10 ^ 70) : (PyData.shown (.int (n : Int))).length ≤ 70 := by
  rw [PyData.shown_int]
  refine toString_length_le (Int.natCast_nonneg _) (by decide) ?_
  have := Int.ofNat_lt.mpr h
  exact Int.lt_of_lt_of_le this (by decide +kernel)
theorem shown_sum : ∀ ns : List Nat, (∀ n ∈ ns, n < 10 ^ 70) → ((PyData.shownAll ((ns.map fun n : Nat => (n : Int)).map PyData.int)).map (·.length)).sum ≤ 70 * ns.length
  | [], _ => by simp [PyData.shownAll]
  | n :: r, h => by
    have h1 := shown_len (h n List.mem_cons_self)
    have h2 := shown_sum r fun m hm => h m (List.mem_cons_of_mem _ hm)
    simp only [List.map_cons, PyData.shownAll, List.sum_cons, List.length_cons]
    omega
theorem log_small {n : Nat} (h : n < 10 ^ 70) : ((n : Int)).natAbs.log2 < 1920 := by
  rw [Int.natAbs_natCast]
  by_cases z : n = 0
  · subst z
    decide
  · exact (Nat.log2_lt z).mpr (Nat.lt_trans h (by decide +kernel))
theorem noDict_ints : ∀ ns : List Int, PyData.hasDictAll (ns.map PyData.int) = false
  | [] => by simp [PyData.hasDictAll]
  | n :: r => by simp [PyData.hasDictAll, PyData.hasDict, noDict_ints r]
/-- what repr asks of a tuple of small numbers -/
theorem rep_ints {K : PySem.W.Frag} {H : Hp} {a : Addr} {ns : List Nat} {Q : VK} (hS : SqT K H a (ns.map fun n : Nat => V.int (n : Int))) (h : ∀ n ∈ ns, n < 10 ^ 70) (hl : ns.length ≤ 100000)
    (q : Q (.str (PyData.shown (.tuple ((ns.map fun n : Nat => (n : Int)).map PyData.int)))) H) : rRep K [.ref a] H Q := by
  have dp := depth_ints (ns.map fun n : Nat => (n : Int))
  have sm := shown_sum ns h
  have e : (ns.map fun n : Nat => V.int (n : Int)) = (ns.map fun n : Nat => (n : Int)).map V.int := by
    rw [List.map_map]
    rfl
  rw [e] at hS
  refine ⟨a, _, rfl, .tup hS (DpAll.ints _), ?_, ?_, ?_, ?_, q⟩
  · show PyData.showableAll _ = true
    refine PyData.showableAll_ints _ fun n hn => ?_
    obtain ⟨m, hm, rfl⟩ := List.mem_map.mp hn
    exact log_small (h m hm)
  · show PyData.hasDictAll _ = false
    exact noDict_ints _
  · simp only [PyData.depth]
    omega
  · show (tupleText _).length ≤ sizeLine
    have t := tupleText_len_le (PyData.shownAll ((ns.map fun n : Nat => (n : Int)).map PyData.int))
    rw [PyData.shownAll_length, List.length_map, List.length_map] at t
    rw [sizeLine_eq]
    omega
/-! ### [.. for x, y in zip(t, u)], t and u tuples -/
theorem lc_zipT {K : PySem.W.Frag} {a b : Addr} {xs ys : List V} {g : TG} {tt : TT} {te : TE} {vs : List Nat} {σ : L2.St} {H1 : Hp} {D : Addr} {Qd : Hp → Prop} (Pv : Nat → Hp → Prop)
    (h0 : Pv 0 (upd H1 D (.lst []))) (hl : ∀ i H, Pv i H → SqT K H a xs ∧ SqT K H b ys)
    (hs : ∀ i x y T H, xs[i]? = some x → ys[i]? = some y → Pv i H → H T = none → g (.ref T) (wipe σ vs) (upd H T (.tup [x, y])) fun σ2 H2 => wipe σ2 vs = wipe σ vs ∧ tt σ2 H2 fun k H3 =>
      if k = true then te σ2 H3 fun z H4 => ∃ acc, H4 D = some (.lst acc) ∧ acc.length < sizeLine ∧ Pv (i + 1) (upd H4 D (.lst (acc ++ [z]))) else Pv (i + 1) H3)
    (hd : ∀ i H, Pv i H → (xs.length ≤ i ∨ ys.length ≤ i) → Qd H) :
    ∃ W : Nat → Nat → Hp → Prop, (∃ m, W 0 m (upd H1 D (.lst []))) ∧ ∀ i m H, W i m H →
      ((ItzT K a b).stop i H ∧ Qd H) ∨ ((ItzT K a b).go i H ∧ ∃ Nx : Hp → Prop, (∀ H', Nx H' → ∃ m', m' < m ∧ W (i + 1) m' H') ∧ ∀ x H', (ItzT K a b).yld i H x H' → g x (wipe σ vs) H' fun σ2 H2 => wipe σ2 vs = wipe σ vs ∧ tt σ2 H2 fun k H3 =>
        if k = true then te σ2 H3 fun y H4 => ∃ acc, H4 D = some (.lst acc) ∧ acc.length < sizeLine ∧ Nx (upd H4 D (.lst (acc ++ [y]))) else Nx H3) := by
  refine ⟨fun i m H => m = xs.length - i ∧ Pv i H, ⟨_, rfl, h0⟩, ?_⟩
  rintro i m H ⟨rfl, p⟩
  obtain ⟨k1, k2⟩ := hl i H p
  by_cases c : i < xs.length ∧ i < ys.length
  · obtain ⟨x, gx⟩ := get_of c.1
    obtain ⟨y, gy⟩ := get_of c.2
    refine .inr ⟨⟨xs, ys, x, y, k1, k2, gx, gy⟩, Pv (i + 1), fun H' p' => ⟨xs.length - (i + 1), by omega, rfl, p'⟩, fun z H' hy => ?_⟩
    obtain ⟨T, x', y', rfl, hT, rfl, f1, f2⟩ := hy
    have ex : x' = x := Option.some.inj ((f1 _ k1).symm.trans gx)
    have ey : y' = y := Option.some.inj ((f2 _ k2).symm.trans gy)
    subst ex
    subst ey
    exact hs i _ _ T H gx gy p hT
  · have c' : xs.length ≤ i ∨ ys.length ≤ i := by omega
    exact .inl ⟨⟨xs, ys, k1, k2, c'⟩, hd i H p c'⟩
end Loc

/-! the lowest digit in which two naturals differ -/
namespace M07
theorem or_two (a b : Nat) : (a ||| b) = 2 * ((a / 2) ||| (b / 2)) + (if a % 2 = 0 ∧ b % 2 = 0 then 0 else 1) := by
  have h1 : (a ||| b) / 2 = (a / 2) ||| (b / 2) := Nat.or_div_two
  have h2 : (a ||| b) % 2 = if a % 2 = 0 ∧ b % 2 = 0 then 0 else 1 := by
    have h3 := @Nat.or_mod_two_eq_one a b
    split <;> omega
  rw [← h1, ← h2]
  omega
theorem and_two (a b : Nat) : (a &&& b) = 2 * ((a / 2) &&& (b / 2)) + (if a % 2 = 1 ∧ b % 2 = 1 then 1 else 0) := by
  have h1 : (a &&& b) / 2 = (a / 2) &&& (b / 2) := Nat.and_div_two
  have h2 : (a &&& b) % 2 = if a % 2 = 1 ∧ b % 2 = 1 then 1 else 0 := by
    have h3 := @Nat.and_mod_two_eq_one a b
    split <;> omega
  rw [← h1, ← h2]
  omega
/-- the digits of one and not of the other -/
def dif (a b : Nat) : Nat := (a ||| b) - (a &&& b)
theorem and_le_or : ∀ (n a b : Nat), a + b ≤ n → (a &&& b) ≤ (a ||| b)
  | 0, a, b, h => by
    have e1 : a = 0 := by omega
    have e2 : b = 0 := by omega
    subst e1; subst e2; decide
  | n + 1, a, b, h => by
    by_cases z : a + b = 0
    · have e1 : a = 0 := by omega
      have e2 : b = 0 := by omega
      subst e1; subst e2; decide
    · have ih := and_le_or n (a / 2) (b / 2) (by omega)
      rw [or_two a b, and_two a b]
      split <;> split <;> omega
theorem dif_two (a b : Nat) : dif a b = 2 * dif (a / 2) (b / 2) + (if a % 2 = b % 2 then 0 else 1) := by
  unfold dif
  have k := and_le_or _ (a / 2) (b / 2) (Nat.le_refl _)
  rw [or_two a b, and_two a b]
  split <;> split <;> split <;> omega
/-- the lowest digit in which they differ, looked for within the fuel -/
def low : Nat → Nat → Nat → Nat
  | 0, _, _ => 0
  | n + 1, a, b => if a % 2 = b % 2 then low n (a / 2) (b / 2) + 1 else 0
theorem low_spec : ∀ (n a b : Nat), a + b < n → a ≠ b →
    (∃ q, dif a b = 2 ^ low n a b * (2 * q + 1)) ∧ (a / 2 ^ low n a b) % 2 ≠ (b / 2 ^ low n a b) % 2 ∧ ∀ i, i < low n a b → (a / 2 ^ i) % 2 = (b / 2 ^ i) % 2
  | 0, a, b, h, _ => by omega
  | n + 1, a, b, h, hne => by
    unfold low
    have hd := dif_two a b
    by_cases e : a % 2 = b % 2
    · rw [if_pos e]
      rw [if_pos e] at hd
      obtain ⟨⟨q, h1⟩, h2, h3⟩ := low_spec n (a / 2) (b / 2) (by omega) (by omega)
      refine ⟨⟨q, ?_⟩, ?_, fun i hi => ?_⟩
      · rw [hd, h1, Nat.pow_succ]
        simp [Nat.mul_assoc, Nat.mul_comm, Nat.mul_left_comm]
      · rw [Nat.pow_succ, Nat.mul_comm, ← Nat.div_div_eq_div_mul, ← Nat.div_div_eq_div_mul]
        exact h2
      · cases i with
        | zero => simpa using e
        | succ i =>
          rw [Nat.pow_succ, Nat.mul_comm, ← Nat.div_div_eq_div_mul, ← Nat.div_div_eq_div_mul]
          exact h3 i (by omega)
    · rw [if_neg e]
      rw [if_neg e] at hd
      refine ⟨⟨dif (a / 2) (b / 2), ?_⟩, ?_, fun i hi => ?_⟩
      · rw [hd]; simp
      · simpa using e
      · omega
/-- u & (u - 1), u = 2 ^ t * odd -/
theorem and_pred : ∀ (t q : Nat), (2 ^ t * (2 * q + 1)) &&& (2 ^ t * (2 * q + 1) - 1) = 2 ^ t * (2 * q)
  | 0, q => by
    simp only [Nat.pow_zero, Nat.one_mul, Nat.add_sub_cancel]
    rw [and_two]
    rw [show (2 * q + 1) / 2 = q by omega, show 2 * q / 2 = q by omega, Nat.and_self]
    rw [if_neg (by omega)]
    omega
  | t + 1, q => by
    have ih := and_pred t q
    have hp : 0 < 2 ^ t * (2 * q + 1) := Nat.mul_pos (Nat.two_pow_pos t) (by omega)
    rw [show 2 ^ (t + 1) * (2 * q + 1) = 2 * (2 ^ t * (2 * q + 1)) by rw [Nat.pow_succ]; simp [Nat.mul_assoc, Nat.mul_comm, Nat.mul_left_comm]]
    rw [show 2 ^ (t + 1) * (2 * q) = 2 * (2 ^ t * (2 * q)) by rw [Nat.pow_succ]; simp [Nat.mul_assoc, Nat.mul_comm, Nat.mul_left_comm]]
    generalize 2 ^ t * (2 * q + 1) = u at ih hp ⊢
    rw [and_two, if_neg (by omega)]
    rw [show 2 * u / 2 = u by omega, show (2 * u - 1) / 2 = u - 1 by omega, ih]
    omega
/-- the mark of a later place -/
def mk (a b : Nat) : Nat := 2 * low (a + b + 1) a b + (b / 2 ^ low (a + b + 1) a b) % 2
/-- a later round -/
def marks : Nat → List Nat → List Nat
  | _, [] => []
  | a, b :: r => mk a b :: marks b r
def round : List Nat → List Nat
  | [] => []
  | a :: r => a % 2 :: marks a r
theorem marks_length : ∀ (a : Nat) (l : List Nat), (marks a l).length = l.length
  | _, [] => rfl
  | a, b :: r => by show (marks b r).length + 1 = r.length + 1; rw [marks_length b r]
theorem round_length (l : List Nat) : (round l).length = l.length := by
  cases l with
  | nil => rfl
  | cons a r => show (marks a r).length + 1 = r.length + 1; rw [marks_length]
theorem marks_get : ∀ (a : Nat) (l : List Nat) (i x y : Nat), (a :: l)[i]? = some x → (a :: l)[i + 1]? = some y → (marks a l)[i]? = some (mk x y)
  | a, [], i, x, y, _, h => by simp at h
  | a, b :: r, 0, x, y, h1, h2 => by
    simp at h1 h2
    subst h1; subst h2; rfl
  | a, b :: r, i + 1, x, y, h1, h2 => by
    show (marks b r)[i]? = _
    exact marks_get b r i x y h1 h2
theorem round_get (l : List Nat) (i x y : Nat) (h1 : l[i]? = some x) (h2 : l[i + 1]? = some y) : (round l)[i + 1]? = some (mk x y) := by
  cases l with
  | nil => simp at h1
  | cons a r => exact marks_get a r i x y h1 h2
/-- neighbours unlike -/
def Unl : List Nat → Prop
  | a :: b :: r => a ≠ b ∧ Unl (b :: r)
  | _ => True
theorem Unl.get : ∀ {l : List Nat} {i x y : Nat}, Unl l → l[i]? = some x → l[i + 1]? = some y → x ≠ y
  | [], _, _, _, _, h, _ => by simp at h
  | [_], i, _, _, _, _, h => by simp at h
  | a :: b :: r, 0, x, y, u, h1, h2 => by
    simp at h1 h2
    subst h1; subst h2; exact u.1
  | a :: b :: r, i + 1, x, y, u, h1, h2 => Unl.get (l := b :: r) (i := i) u.2 (by simpa using h1) (by simpa using h2)
theorem mk_low {a b : Nat} (h : a ≠ b) : mk a b / 2 = low (a + b + 1) a b ∧ mk a b % 2 = (b / 2 ^ low (a + b + 1) a b) % 2 := by
  unfold mk
  omega
theorem mk_ne {a b c : Nat} (h1 : a ≠ b) (h2 : b ≠ c) : mk a b ≠ mk b c := fun e => by
  obtain ⟨p1, p2⟩ := mk_low h1
  obtain ⟨q1, q2⟩ := mk_low h2
  rw [e] at p1 p2
  have el : low (a + b + 1) a b = low (b + c + 1) b c := p1.symm.trans q1
  obtain ⟨_, k, _⟩ := low_spec (b + c + 1) b c (by omega) h2
  rw [← el] at k q2
  exact k (p2.symm.trans q2)
theorem mk_ne0 {a b : Nat} (h : a ≠ b) : a % 2 ≠ mk a b := fun e => by
  obtain ⟨p1, p2⟩ := mk_low h
  obtain ⟨_, k, _⟩ := low_spec (a + b + 1) a b (by omega) h
  have e0 : low (a + b + 1) a b = 0 := by omega
  rw [e0] at k p2
  simp at k p2
  omega
theorem marks_unl : ∀ (a : Nat) (l : List Nat), Unl (a :: l) → Unl (marks a l)
  | _, [], _ => trivial
  | _, [_], _ => trivial
  | a, b :: c :: r, u => ⟨mk_ne u.1 u.2.1, marks_unl b (c :: r) u.2⟩
theorem round_unl (l : List Nat) (u : Unl l) : Unl (round l) := by
  match l, u with
  | [], _ => trivial
  | [_], _ => trivial
  | a :: b :: r, u => exact ⟨mk_ne0 u.1, marks_unl a (b :: r) u⟩
end M07

set_option Elab.async false
set_option linter.all false
namespace M07
open PySem PyProof.Rows
theorem xor_nn (x y : Nat) : Builtin.bitXor (x : Int) (y : Int) = (dif x y : Nat) := by
  show Builtin.bitOr (x : Int) (y : Int) - Builtin.bitAnd (x : Int) (y : Int) = _
  have k := and_le_or _ x y (Nat.le_refl _)
  rw [L2.bitOr_nn (Int.natCast_nonneg _) (Int.natCast_nonneg _), bitAnd_pp (Int.natCast_nonneg _) (Int.natCast_nonneg _)]
  simp only [Int.toNat_natCast]
  unfold dif
  omega
theorem and_neg (u : Nat) (h : 0 < u) : Builtin.bitAnd (u : Int) (-(u : Int)) = (u : Int) - ((u &&& (u - 1) : Nat) : Int) := by
  have h1 : ¬ 0 ≤ -(u : Int) := by omega
  have h2 : (0 : Int) ≤ u := by omega
  have e : (Builtin.bitNot (-(u : Int))).toNat = u - 1 := by
    show (- -(u : Int) - 1).toNat = u - 1
    omega
  unfold Builtin.bitAnd
  rw [decide_eq_true h2, decide_eq_false h1]
  show (u : Int) - (((u : Int).toNat &&& (Builtin.bitNot (-(u : Int))).toNat : Nat) : Int) = _
  rw [e, Int.toNat_natCast]
theorem low_word {x y : Nat} (h : x ≠ y) : ((Builtin.Int.intBits (Builtin.bitAnd (Builtin.bitXor (x : Int) (y : Int)) (-(Builtin.bitXor (x : Int) (y : Int)))) : Nat) : Int) - 1 = (low (x + y + 1) x y : Nat) := by
  obtain ⟨⟨q, e⟩, _, _⟩ := low_spec (x + y + 1) x y (by omega) h
  generalize low (x + y + 1) x y = t at e ⊢
  have hp : 0 < 2 ^ t := Nat.two_pow_pos t
  have hu : 0 < dif x y := by
    rw [e]
    exact Nat.mul_pos hp (by omega)
  rw [xor_nn, and_neg _ hu, e, and_pred t q]
  have e2 : ((2 ^ t * (2 * q + 1) : Nat) : Int) - ((2 ^ t * (2 * q) : Nat) : Int) = ((2 ^ t : Nat) : Int) := by
    rw [show 2 ^ t * (2 * q + 1) = 2 ^ t * (2 * q) + 2 ^ t by rw [Nat.mul_add, Nat.mul_one]]
    omega
  rw [e2]
  unfold Builtin.Int.intBits
  have hz : ¬ (((2 ^ t : Nat) : Int) == 0) = true := by
    rw [beq_iff_eq]
    omega
  rw [if_neg hz, Int.natAbs_natCast, Nat.log2_two_pow]
  omega
theorem high_word (y t : Nat) : Builtin.bitAnd ((y : Int) / 2 ^ t) 1 = ((y / 2 ^ t % 2 : Nat) : Int) := by
  rw [PyProof.Rows.bitAnd_m1, ← PySem.W.kbt_cast t]
  omega
theorem mark_word {x y : Nat} (h : x ≠ y) : 2 * (((Builtin.Int.intBits (Builtin.bitAnd (Builtin.bitXor (x : Int) (y : Int)) (-(Builtin.bitXor (x : Int) (y : Int)))) : Nat) : Int) - 1) +
    Builtin.bitAnd ((y : Int) / 2 ^ (((Builtin.Int.intBits (Builtin.bitAnd (Builtin.bitXor (x : Int) (y : Int)) (-(Builtin.bitXor (x : Int) (y : Int)))) : Nat) : Int) - 1).toNat) 1 = (mk x y : Nat) := by
  rw [low_word h, Int.toNat_natCast, high_word]
  unfold mk
  omega
end M07

set_option Elab.async false
set_option linter.all false
set_option maxRecDepth 100000
namespace C07
open PySem PySem.Spec PyProof.Rows L2 Loc
def topS (i : Nat) : Stmt := PySem.Challenge.pw_localblocks_k07_other_rounds.main.body.getD i (.Pass ⟨0, 0, 0, 0⟩)
abbrev sPot : Stmt := topS 4
abbrev sTake : Stmt := topS 5
abbrev sOf : Stmt := topS 6
abbrev sNext : Stmt := topS 1
abbrev sNm : Stmt := topS 2
abbrev sRound : Stmt := topS 7
abbrev sInts : Stmt := topS 8
abbrev sLaw : Stmt := topS 9
/-! ### the law's pot -/
section
variable {P : Program} {w : World} {K : PySem.W.Frag} {mg : Str → Option Value} {base : Heap}
theorem scPot : FnScope ["script", "k", "cell", "own"] ["script", "k"] (defScope sPot) := ⟨rfl, rfl, rfl, by decide +kernel, rfl, by decide +kernel, by decide +kernel⟩
theorem scTake : FnScope ["pot", "bound", "digit", "prime", "mixed"] ["pot", "bound"] (defScope sTake) := ⟨rfl, rfl, rfl, by decide +kernel, rfl, by decide +kernel, by decide +kernel⟩
theorem ok_pot {f : Addr} {fd : FuncData} {k : Nat} (F : Fun K "_law_pot" "_law_pot" sPot f fd) (ml : mg "len" = none) (ma : mg "abs" = none) (mi : mg "int" = none) :
    FnOk P w K mg base CX0 (k + 1) f fd ["script", "k"] (spPot K) := by
  refine F.ok scPot (fun vs H Q E h => ?_) (fun cdv A outer s H vs Q E hr h => ?_)
  · obtain ⟨a, ns, k, rfl, _⟩ := h
    rfl
  · obtain ⟨a, ns, k, rfl, hS, hl, hk, q⟩ := h
    refine ⟨_, pss_cons (ps_set (i := 2) scPot.nd rfl (.inl rfl) (pe_ifExp (pt_cmpR op_lt (pv 1) (pe_callB call_len_seq (by rfl) ml PySem.boot_len (pa_cons (pv 0) pa_nil)) (nomark _))
          (pe_ix ix_list (pv 0) (pv 1) (fun _ _ => rfl)) (pe_op op_add (pe_op op_mul pe_int (pv 1)) pe_int)))
      (pss_cons (ps_set (i := 3) scPot.nd rfl (.inl rfl) (pe_op op_mul
          (pe_op op_mod (pe_callB call_abs (by rfl) ma (by decide +kernel) (pa_cons (pv 2) pa_nil)) (pe_op op_powW (pe_op op_pow pe_int pe_int) pe_int))
          (pe_callTy call_int1 (by rfl) mi (by decide +kernel) (pa_cons (pe_cmpR op_ge (pe_callB call_abs (by rfl) ma (by decide +kernel) (pa_cons (pv 2) pa_nil)) (pe_op op_pow pe_int pe_int) (nomark _)) pa_nil))))
      (pss_one (ps_ret (pe_lst (pa_cons (pv 3) (pa_cons (pe_op op_mod (pe_op op_add (pe_op op_add (pe_op op_mul (pe_op op_mod (pv 2) pe_int) pe_int) (pe_op op_mul (pe_op op_mul pe_int (pv 1)) (pv 1))) pe_int) pe_int)
          (pa_cons pe_int pa_nil))))))), ?_⟩
    refine ⟨.int k, rfl, .ref a, rfl, a, ns.map V.int, rfl, .inl hS, k, (ns.map V.int).length, rfl, rfl, _, rfl, ?_⟩
    refine joinIf (fun v H' => (∃ c : Int, v = .int c) ∧ H' = H) ?key (fun e R hR => ?yes) (fun e R hR => ?no)
    case yes =>
      have e1 : (k : Int) < ((ns.map V.int).length : Int) := of_decide_eq_true e
      rw [List.length_map] at e1
      have hk2 : k < ns.length := by omega
      refine ⟨.ref a, rfl, .int k, rfl, a, _, k, .int ns[k], rfl, rfl, hS, atI_nat (by rw [List.getElem?_map, List.getElem?_eq_getElem hk2]; rfl), hR _ _ ⟨⟨_, rfl⟩, rfl⟩⟩
    case no =>
      exact ⟨.int k, rfl, 17, k, rfl, rfl, .inl ⟨by decide, by decide⟩, _, _, rfl, rfl, hR _ _ ⟨⟨_, rfl⟩, rfl⟩⟩
    case key =>
      rintro v H' ⟨⟨c, rfl⟩, rfl⟩
      refine ⟨.int c, rfl, c, rfl, 10, 60, rfl, rfl, ⟨by decide, by decide, by decide⟩, _, _, rfl, rfl, pow60, _, _, rfl, rfl, pow300', ?_⟩
      have m1 := mod_pos (a := if c < 0 then -c else c) pow300'
      have m2 := pow300
      refine ⟨.int c, rfl, c, rfl, 10, 18, rfl, rfl, ⟨by decide, by decide, by decide⟩, _, _, rfl, rfl, .inr ⟨_, rfl, _, _, rfl, rfl, .inr ?_, ?_⟩⟩
      · exact bit_small _
      have m3 := mul_bit ⟨m1.1, Int.lt_trans m1.2 m2⟩ (decide ((10 : Int) ^ (18 : Int).toNat ≤ if c < 0 then -c else c))
      have m4 := mod_pos (a := c) (show (0 : Int) < 2305843009213693951 by decide)
      refine ⟨_, rfl, .int c, rfl, c, _, rfl, rfl, (by show (0 : Int) < 2305843009213693951; decide), _, _, rfl, rfl, .inr ⟨by decide, by decide⟩, .int k, rfl, 7907, k, rfl, rfl, .inl ⟨by decide, by decide⟩, .int k, rfl, _, _, rfl, rfl, .inr ⟨by omega, by omega⟩,
        _, _, rfl, rfl, _, 41, rfl, rfl, _, _, rfl, rfl, (by show (0 : Int) < 2305843009213693921; decide), (show 3 ≤ sizeLine from by decide), fun p hp => ?_⟩
      have m5 := mod_pos (a := c % 2305843009213693951 * 69691 + 7907 * (k : Int) * (k : Int) + 41) (show (0 : Int) < 2305843009213693921 by decide)
      exact q p _ hp ⟨_, _, 0, rfl, m3.1, m3.2, m5.1, by omega, by decide, by decide⟩
theorem ok_take {f : Addr} {fd : FuncData} {k : Nat} (F : Fun K "_law_take" "_law_take" sTake f fd) : FnOk P w K mg base CX0 (k + 1) f fd ["pot", "bound"] spTake := by
  refine F.ok scTake (fun vs H Q E h => ?_) (fun cdv A outer s H vs Q E hr h => ?_)
  · obtain ⟨p, b, c, rfl, _⟩ := h
    rfl
  · obtain ⟨p, b, c, rfl, ⟨o, ep, own, mix, cnt, rfl, h1, h2, h3, h4, h5, h6⟩, hc, b1, b2, q⟩ := h
    refine ⟨_, pss_cons (ps_if (pt_cmpR op_gt (pe_ix ix_list (pv 0) pe_int (fun _ _ => rfl)) pe_int (nomark _))
        (pss_cons (ps_set (i := 2) scTake.nd rfl (.inl rfl) (pe_op op_mod (pe_ix ix_list (pv 0) pe_int (fun _ _ => rfl)) (pv 1)))
          (pss_cons (ps_asg (pe_op op_fdivW (pe_ix ix_list (pv 0) pe_int (fun _ _ => rfl)) (pv 1)) (pg_sub (pv 0) pe_int set_list)) (pss_one (ps_ret (pv 2))))) pss_nil)
      (pss_cons (ps_asg (pe_op op_add (pe_ix ix_list (pv 0) pe_int (fun _ _ => rfl)) pe_int) (pg_sub (pv 0) pe_int set_list))
      (pss_cons (ps_set (i := 3) scTake.nd rfl (.inl rfl) (pe_ix ix_list (pe_lst (pa_cons pe_int (pa_cons pe_int (pa_cons pe_int (pa_cons pe_int (pa_cons pe_int pa_nil)))))) (pe_op op_mod (pe_ix ix_list (pv 0) pe_int (fun _ _ => rfl)) pe_int) (fun _ _ => rfl)))
      (pss_cons (ps_set (i := 4) scTake.nd rfl (.inl rfl) (pe_op op_mod (pe_op op_pow (pe_op op_add (pe_op op_add (pe_ix ix_list (pv 0) pe_int (fun _ _ => rfl))
          (pe_op op_mul (pe_op op_mul pe_int (pe_ix ix_list (pv 0) pe_int (fun _ _ => rfl))) (pe_ix ix_list (pv 0) pe_int (fun _ _ => rfl)))) pe_int) pe_int) (pv 3)))
      (pss_one (ps_ret (pe_op op_mod (pe_op op_fdiv (pe_op op_mod (pe_op op_mul (pv 4) (pe_op op_add (pe_op op_mod (pv 4) pe_int) (pe_op op_mul pe_int (pe_ix ix_list (pv 0) pe_int (fun _ _ => rfl))))) pe_int) pe_int) (pv 1))))))), ?_⟩
    have hS : SqL K H p [.int own, .int mix, .int cnt] := .inl (.inl ep)
    refine ⟨.ref p, rfl, p, _, 0, .int own, rfl, rfl, hS, rfl, own, 0, rfl, rfl, _, rfl, ite2 (fun e => ?_) (fun e => ?_)⟩
    · have hpos : 0 < own := of_decide_eq_true e
      refine ⟨.ref p, rfl, p, _, 0, .int own, rfl, rfl, hS, rfl, .int b, rfl, own, b, rfl, rfl, b1, ?_⟩
      refine ⟨.ref p, rfl, p, _, 0, .int own, rfl, rfl, hS, rfl, .int b, rfl, own, b, rfl, rfl, ⟨b1, ?_⟩, .ref p, rfl, p, _, 0, 0, rfl, rfl, ep, rfl, ?_⟩
      · exact (wide_div (i := own) b1 (natAbs_lt (Int.le_of_lt b1) b2) (by decide) (by decide)).2
      · have dv := div_small h1 b1
        exact ⟨.int (own % b), rfl, q _ _ (mod_pos b1).1 (mod_pos b1).2 .set (.put ⟨own / b, mix, cnt, rfl, dv.1, Int.lt_of_le_of_lt dv.2 h2, h3, h4, h5, by omega⟩)⟩
    · refine ⟨.ref p, rfl, p, _, 2, .int cnt, rfl, rfl, hS, rfl, cnt, 1, rfl, rfl, .ref p, rfl, p, _, 2, 2, rfl, rfl, ep, rfl, ?_⟩
      refine ⟨(show 5 ≤ sizeLine from by decide), fun l hl => ?_⟩
      have np : p ≠ l := fun z => by
        rw [z, upd_same] at hl
        cases hl
      have hS1 : SqL K (upd (upd H p (.lst [.int own, .int mix, .int (cnt + 1)])) l (.lst [.int 2147483647, .int 2147483629, .int 2147483587, .int 2147483579, .int 2147483563])) p [.int own, .int mix, .int (cnt + 1)] :=
        .inl (.inl (by rw [upd_ne np, upd_same]))
      obtain ⟨pr, e1, e2, e3⟩ := prime_at (n := cnt + 1) (by omega)
      have bs := base_small h3 h4 (c := cnt + 1) (by omega) (by omega)
      refine ⟨.ref p, rfl, p, _, 2, .int (cnt + 1), rfl, rfl, hS1, rfl, cnt + 1, 5, rfl, rfl, (show (0 : Int) < 5 by decide), l, _, _, .int pr, rfl, rfl, .inl (.inl upd_same), e1, ?_⟩
      refine ⟨.ref p, rfl, p, _, 1, .int mix, rfl, rfl, hS1, rfl, .ref p, rfl, p, _, 2, .int (cnt + 1), rfl, rfl, hS1, rfl, 99991, cnt + 1, rfl, rfl, .inl ⟨by decide, by decide⟩,
        .ref p, rfl, p, _, 2, .int (cnt + 1), rfl, rfl, hS1, rfl, _, cnt + 1, rfl, rfl, .inr ⟨by omega, by omega⟩, mix, _, rfl, rfl, _, 29, rfl, rfl, _, 3, rfl, rfl, ⟨by decide, by decide, natAbs_lt bs.1 bs.2⟩, .int pr, rfl, _, pr, rfl, rfl, e2, ?_⟩
      have mx := mod_pos (a := (mix + 99991 * (cnt + 1) * (cnt + 1) + 29) ^ (3 : Int).toNat) e2
      have mx1 : -(2 ^ 64) < (mix + 99991 * (cnt + 1) * (cnt + 1) + 29) ^ (3 : Int).toNat % pr := Int.lt_of_lt_of_le (by decide) mx.1
      have mx2 : (mix + 99991 * (cnt + 1) * (cnt + 1) + 29) ^ (3 : Int).toNat % pr < 2 ^ 64 := Int.lt_trans mx.2 (Int.lt_trans e3 (by decide))
      refine ⟨_, rfl, _, rfl, _, 10007, rfl, rfl, (show (0 : Int) < 10007 by decide), .ref p, rfl, p, _, 2, .int (cnt + 1), rfl, rfl, hS1, rfl, 71, cnt + 1, rfl, rfl, .inl ⟨by decide, by decide⟩, _, _, rfl, rfl,
        _, _, rfl, rfl, .inl ⟨mx1, mx2⟩, _, _, rfl, rfl, (show (0 : Int) < 2305843009213693907 by decide), _, 103, rfl, rfl, ⟨by decide, by decide⟩, .int b, rfl, _, b, rfl, rfl, b1, ?_⟩
      exact q _ _ (mod_pos b1).1 (mod_pos b1).2 (But.trans .set (.new hl)) ⟨_, by rw [upd_ne np, upd_same]; rfl, own, mix, cnt + 1, rfl, h1, h2, h3, h4, by omega, by omega⟩
theorem scOf : FnScope ["pot", "some"] ["pot", "some"] (defScope sOf) := ⟨rfl, rfl, rfl, by decide +kernel, rfl, by decide +kernel, by decide +kernel⟩
theorem ok_of {f g : Addr} {fd gd : FuncData} {k : Nat} (F : Fun K "_law_of" "_law_of" sOf f fd) (T : Fun K "_law_take" "_law_take" sTake g gd) (gT : mg "_law_take" = some (.ref g)) (bT : Binds K gd ["pot", "bound"] [])
    (ml : mg "len" = none) : FnOk P w K mg base CX0 (k + 2) f fd ["pot", "some"] spOf := by
  have GT : FnOk P w K mg base CX0 (k + 1) g gd ["pot", "bound"] spTake := ok_take T
  refine F.ok scOf (fun vs H Q E h => ?_) (fun cdv A outer s H vs Q E hr h => ?_)
  · obtain ⟨p, a, xs, c, rfl, _⟩ := h
    rfl
  · obtain ⟨p, a, xs, c, rfl, hp, hc, ne, ha, h0, hl, q⟩ := h
    refine ⟨_, pss_one (ps_ret (pe_ix ix_list (pv 1) (pe_call GT hr (by rfl) gT T.kp bT .nil pass0 (pa_cons (pv 0) (pa_cons (pe_callB call_len_seq (by rfl) ml PySem.boot_len (pa_cons (pv 1) pa_nil)) pa_nil))) (fun _ _ => rfl))), ?_⟩
    have hS : SqL K H a xs := .inl (.inl ha)
    have hx : 0 < xs.length := List.length_pos_iff.mpr h0
    refine ⟨.ref a, rfl, .ref p, rfl, .ref a, rfl, a, xs, rfl, .inl hS, p, xs.length, c, rfl, hp, hc, by omega, small_pow hl, fun d H' d0 d1 bt pt => ?_⟩
    obtain ⟨j, rfl⟩ := Int.eq_ofNat_of_zero_le d0
    have hj : j < xs.length := by omega
    have g : xs[j]? = some xs[j] := List.getElem?_eq_getElem hj
    exact ⟨a, xs, j, xs[j], rfl, rfl, bt.sql ne hS, atI_nat g, q j _ H' g bt pt⟩
end
/-! ### the later rounds -/
abbrev vN (ns : List Nat) : List V := ns.map fun n : Nat => V.int (n : Int)
theorem vN_get {ns : List Nat} {i n : Nat} (h : ns[i]? = some n) : (vN ns)[i]? = some (.int (n : Int)) := by
  rw [List.getElem?_map, h]
  rfl
theorem vN_len (ns : List Nat) : (vN ns).length = ns.length := List.length_map _
theorem vN_app (ns : List Nat) (n : Nat) : vN (ns ++ [n]) = vN ns ++ [.int (n : Int)] := List.map_append
section
variable {P : Program} {w : World} {K : PySem.W.Frag} {mg : Str → Option Value} {base : Heap}
theorem scNm : FnScope ["some", "place", "unlike", "lowest"] ["some", "place"] (defScope sNm) := ⟨rfl, rfl, rfl, by decide +kernel, rfl, by decide +kernel, by decide +kernel⟩
theorem scNext : FnScope ["some", "place"] ["some"] (defScope sNext) := ⟨rfl, rfl, rfl, by decide +kernel, rfl, by decide +kernel, by decide +kernel⟩
def spNm (K : PySem.W.Frag) : Sp := fun vs H Q _ => ∃ (a : Addr) (ns : List Nat) (z : Int) (i m : Nat), vs = [.ref a, .int z] ∧ z = i ∧ SqT K H a (vN ns) ∧ M07.Unl ns ∧ (M07.round ns)[i]? = some m ∧ Q (.int (m : Int)) H
theorem ok_nm {f : Addr} {fd : FuncData} {k : Nat} (F : Fun K "_next_mark" "_next_mark" sNm f fd) : FnOk P w K mg base CX0 (k + 1) f fd ["some", "place"] (spNm K) := by
  refine F.ok scNm (fun vs H Q E h => ?_) (fun cdv A outer s H vs Q E hr h => ?_)
  · obtain ⟨a, ns, z, i, m, rfl, _⟩ := h
    rfl
  · obtain ⟨a, ns, z, i, m, rfl, rfl, hS, un, hm, q⟩ := h
    refine ⟨_, pss_cons (ps_if (pt_cmpR op_eq (pv 1) pe_int (nomark _)) (pss_one (ps_ret (pe_op op_and (pe_ix ix_tup (pv 0) pe_int (fun _ _ => rfl)) pe_int))) pss_nil)
      (pss_cons (ps_set (i := 2) scNm.nd rfl (.inl rfl) (pe_op op_xor (pe_ix ix_tup (pv 0) (pe_op op_sub (pv 1) pe_int) (fun _ _ => rfl)) (pe_ix ix_tup (pv 0) (pv 1) (fun _ _ => rfl))))
      (pss_cons (ps_set (i := 3) scNm.nd rfl (.inl rfl) (pe_op op_sub (pe_bits (pe_op op_and (pv 2) (pe_un un_neg (pv 2)))) pe_int))
      (pss_one (ps_ret (pe_op op_add (pe_op op_mul pe_int (pv 3)) (pe_op op_and (pe_op op_shr (pe_ix ix_tup (pv 0) (pv 1) (fun _ _ => rfl)) (pv 3)) pe_int)))))), ?_⟩
    have hi : i < ns.length := by
      have := (List.getElem?_eq_some_iff.mp hm).1
      rwa [M07.round_length] at this
    refine ⟨.int i, rfl, rfl, _, rfl, ite2 (fun e => ?_) (fun e => ?_)⟩
    · have e0 : (i : Int) = 0 := V.int.inj (of_decide_eq_true e)
      have e1 : i = 0 := by omega
      subst e1
      match ns, hi, hm, hS with
      | n :: r, _, hm, hS =>
        have e2 : n % 2 = m := Option.some.inj hm
        refine ⟨.ref a, rfl, a, _, ((0 : Nat) : Int), .int n, rfl, rfl, hS, atI_nat (by rfl), n, 1, rfl, rfl, ?_⟩
        show Q (.int (Builtin.bitAnd (n : Int) 1)) H
        rw [PyProof.Rows.bitAnd_m1, ← show ((m : Nat) : Int) = (n : Int) % 2 by omega]
        exact q
    · have e1 : i ≠ 0 := fun z => e (by rw [z]; rfl)
      obtain ⟨j, rfl⟩ : ∃ j, i = j + 1 := ⟨i - 1, by omega⟩
      have gx : ns[j]? = some ns[j] := List.getElem?_eq_getElem (by omega)
      have gy : ns[j + 1]? = some ns[j + 1] := List.getElem?_eq_getElem hi
      have hne := M07.Unl.get un gx gy
      generalize ns[j] = x at gx hne
      generalize ns[j + 1] = y at gy hne
      have em := M07.round_get ns j x y gx gy
      rw [hm] at em
      have em := Option.some.inj em
      refine ⟨.ref a, rfl, .int ((j + 1 : Nat) : Int), rfl, _, 1, rfl, rfl, a, _, (j : Nat), .int x, rfl, ?_, hS, atI_nat (vN_get gx), .ref a, rfl, .int ((j + 1 : Nat) : Int), rfl, a, _, ((j + 1 : Nat) : Int), .int y, rfl, rfl, hS, atI_nat (vN_get gy), x, y, rfl, rfl, ?_⟩
      · show V.int (((j + 1 : Nat) : Int) - 1) = V.int (j : Nat)
        congr 1
        omega
      refine ⟨_, rfl, _, rfl, _, rfl, _, _, rfl, rfl, _, rfl, _, 1, rfl, rfl, _, rfl, 2, _, rfl, rfl, .inl ⟨by decide, by decide⟩, .ref a, rfl, .int ((j + 1 : Nat) : Int), rfl, a, _, ((j + 1 : Nat) : Int), .int y, rfl, rfl, hS, atI_nat (vN_get gy), _, rfl, y, _, rfl, rfl, ?_,
        _, 1, rfl, rfl, _, _, rfl, rfl, ?_⟩
      · show (0 : Int) ≤ ((Builtin.Int.intBits (Builtin.bitAnd (Builtin.bitXor (x : Int) (y : Int)) (-(Builtin.bitXor (x : Int) (y : Int)))) : Nat) : Int) - 1
        rw [M07.low_word hne]
        omega
      · have mw := M07.mark_word hne
        rw [← em] at mw
        rw [← mw] at q
        exact q
/-- next_marks -/
def spNext (K : PySem.W.Frag) : Sp := fun vs H Q _ => ∃ (a : Addr) (ns : List Nat), vs = [.ref a] ∧ SqT K H a (vN ns) ∧ M07.Unl ns ∧ ns.length ≤ 100000 ∧
  ∀ H' p, Same H H' → H' p = some (.tup (vN (M07.round ns))) → Q (.ref p) H'
theorem ok_next {f g : Addr} {fd gd : FuncData} {k : Nat} (F : Fun K "next_marks" "next_marks" sNext f fd) (M : Fun K "_next_mark" "_next_mark" sNm g gd) (gM : mg "_next_mark" = some (.ref g)) (bM : Binds K gd ["some", "place"] [])
    (ml : mg "len" = none) (mr : mg "range" = none) (mt : mg "tuple" = none) : FnOk P w K mg base CX0 (k + 2) f fd ["some"] (spNext K) := by
  have GM : FnOk P w K mg base CX0 (k + 1) g gd ["some", "place"] (spNm K) := ok_nm M
  refine F.ok scNext (fun vs H Q E h => ?_) (fun cdv A outer s H vs Q E hr h => ?_)
  · obtain ⟨a, ns, rfl, _⟩ := h
    rfl
  · obtain ⟨a, ns, rfl, hS, un, hl, q⟩ := h
    refine ⟨_, pss_one (ps_ret (pe_callTy call_tuple_of (by rfl) mt (by decide +kernel) (pa_cons (pe_lc (own := [("place", 1)]) (g := gName 1) (tt := tYes) rfl scNext.nd
      (pi_range1 (by rfl) mr (pa_cons (pe_callB call_len_seq (by rfl) ml PySem.boot_len (pa_cons (pv 0) pa_nil)) pa_nil)) (blkOk_by (N := ["some", "place"]) (sc := defScope sNext) (by decide +kernel))
      (fun _ _ _ _ _ => pg_name (i := 1) scNext.nd rfl (Or.inl rfl)) (fun _ _ _ _ _ => pts_nil)
      (fun _ _ _ _ _ => pe_call GM hr (by rfl) gM M.kp bM .nil pass0 (pa_cons (pv 0) (pa_cons (pv 1) pa_nil)))) pa_nil))), ?_⟩
    refine ⟨.ref a, rfl, a, _, rfl, .inr hS, _, rfl, ?_, ?_, fun D hD => ?_⟩
    · show -(2 ^ 62) ≤ (((vN ns).length : Nat) : Int)
      omega
    · show (((vN ns).length : Nat) : Int) < 2 ^ 62
      rw [vN_len]
      omega
    refine lc_range (fun i H' => H' = upd H D (.lst (vN ((M07.round ns).take i)))) (by rw [List.take_zero]; rfl) (fun i H' hi hp => ?_) (fun H' hp => ?_)
    · subst hp
      rw [Int.toNat_natCast, vN_len] at hi
      have hr' : i < (M07.round ns).length := by rw [M07.round_length]; exact hi
      have ge : (M07.round ns)[i]? = some (M07.round ns)[i] := List.getElem?_eq_getElem hr'
      refine ⟨rfl, .ref a, rfl, _, rfl, a, ns, _, i, _, rfl, by omega, sameT (sameN hD) hS, un, ge, vN ((M07.round ns).take i), upd_same, ?_, ?_⟩
      · rw [vN_len]
        exact line5 (small_take (by rw [M07.round_length]; exact hl))
      · rw [upd_upd, List.take_add_one, ge]
        exact congrArg (fun z => upd H D (.lst z)) (vN_app _ _).symm
    · subst hp
      rw [Int.toNat_natCast, vN_len, List.take_of_length_le (by rw [M07.round_length]; exact Nat.le_refl _)]
      refine ⟨D, _, rfl, .inl ⟨.inl (.inl upd_same), fun l hl' => ?_⟩⟩
      exact q _ _ (sameW (sameN hD) ((sameN hD).free hl')) upd_same
end
end C07

set_option Elab.async false
set_option linter.all false
set_option maxRecDepth 100000
namespace C07
open PySem PySem.Spec PyProof.Rows L2 Loc
/-! ### the law's own round -/
section
variable {P : Program} {w : World} {K : PySem.W.Frag} {mg : Str → Option Value} {base : Heap}
theorem scRound : FnScope ["some", "found", "at", "digit", "low", "high"] ["some"] (defScope sRound) := ⟨rfl, rfl, rfl, by decide +kernel, rfl, by decide +kernel, by decide +kernel⟩
def spRound (K : PySem.W.Frag) : Sp := fun vs H Q _ => ∃ (a : Addr) (ns : List Nat), vs = [.ref a] ∧ SqA K H a (vN ns) ∧ M07.Unl ns ∧ ns ≠ [] ∧ ns.length ≤ 100000 ∧
  ∀ H' p, Same H H' → H' p = some (.lst (vN (M07.round ns))) → Q (.ref p) H'
theorem ok_round {f : Addr} {fd : FuncData} {k : Nat} (F : Fun K "_law_round" "_law_round" sRound f fd) (ml : mg "len" = none) (mr : mg "range" = none) : FnOk P w K mg base CX0 (k + 1) f fd ["some"] (spRound K) := by
  refine F.ok scRound (fun vs H Q E h => ?_) (fun cdv A outer s H vs Q E hr h => ?_)
  · obtain ⟨a, ns, rfl, _⟩ := h
    rfl
  · obtain ⟨a, ns, rfl, hS, un, ne, hl, q⟩ := h
    refine ⟨_, pss_cons (ps_set (i := 1) scRound.nd rfl (.inl rfl) (pe_lst (pa_cons (pe_op op_mod (pe_ix ix_seq (pv 0) pe_int (fun _ _ => rfl)) pe_int) pa_nil)))
      (pss_cons (ps_for PassesOwn.never rfl (pi_range2 (by rfl) mr (pa_cons pe_int (pa_cons (pe_callB call_len_seq (by rfl) ml PySem.boot_len (pa_cons (pv 0) pa_nil)) pa_nil))) (pg_name (i := 2) scRound.nd rfl (.inl rfl))
        (pss_cons (ps_par3 (i := 3) (j := 4) (l := 5) (by rfl) scRound.nd rfl rfl rfl (by decide) (by decide) (by decide) rfl rfl rfl
            (pa_cons pe_int (pa_cons (pe_ix ix_seq (pv 0) (pe_op op_sub (pv 2) pe_int) (fun _ _ => rfl)) (pa_cons (pe_ix ix_seq (pv 0) (pv 2) (fun _ _ => rfl)) pa_nil))) (by rfl))
        (pss_cons (ps_while PassesOwn.never (pt_cmpR op_eq (pe_op op_mod (pv 4) pe_int) (pe_op op_mod (pv 5) pe_int) (nomark _))
            (pss_one (ps_par3 (i := 3) (j := 4) (l := 5) (by rfl) scRound.nd rfl rfl rfl (by decide) (by decide) (by decide) rfl rfl rfl
              (pa_cons (pe_op op_add (pv 3) pe_int) (pa_cons (pe_op op_fdiv (pv 4) pe_int) (pa_cons (pe_op op_fdiv (pv 5) pe_int) pa_nil))) (by rfl))))
        (pss_one (ps_expr (pe_bm PySem.F.plainAttrs_list PySem.F.slot_list_append PySem.F.type_list_append mt_append (pv 1) (pa_cons (pe_op op_add (pe_op op_mul pe_int (pv 3)) (pe_op op_mod (pv 5) pe_int)) pa_nil)))))))
      (pss_one (ps_ret (pv 1)))), ?_⟩
    obtain ⟨n, r, rfl⟩ : ∃ n r, ns = n :: r := by
      cases ns with
      | nil => exact absurd rfl ne
      | cons n r => exact ⟨n, r, rfl⟩
    refine ⟨.ref a, rfl, hS.ix (v := .int n) (atI_nat (j := 0) (by rfl)) ⟨_, 2, rfl, rfl, (show (0 : Int) < 2 by decide), (show 1 ≤ sizeLine from by decide), fun fd hfd => ?_⟩⟩
    have e0 : (n : Int) % 2 = ((n % 2 : Nat) : Int) := by omega
    refine ⟨.ref a, rfl, a, vN (n :: r), rfl, hS.same (sameN hfd), 1, _, rfl, ⟨by decide, by decide, ?_, ?_⟩, ?_⟩
    · show -(2 ^ 62) ≤ (((vN (n :: r)).length : Nat) : Int)
      omega
    · show (((vN (n :: r)).length : Nat) : Int) < 2 ^ 62
      rw [vN_len]
      omega
    have hn : ((((vN (n :: r)).length : Nat) : Int) - 1).toNat = r.length := by
      rw [vN_len, List.length_cons]
      omega
    refine for_range (fun i σ H' => ∃ y2 y3 y4 y5, σ = [some (.ref a), some (.ref fd), y2, y3, y4, y5] ∧ H' = upd H fd (.lst (vN ((M07.round (n :: r)).take (i + 1)))))
      ⟨none, none, none, none, rfl, ?_⟩ (fun i σ H' hi hp => ?_) (fun σ H' hp => ?_)
    · show upd H fd (.lst [V.int ((n : Int) % 2)]) = _
      rw [e0]
      rfl
    · obtain ⟨y2, y3, y4, y5, rfl, rfl⟩ := hp
      rw [hn] at hi
      have hS' : SqA K (upd H fd (.lst (vN ((M07.round (n :: r)).take (i + 1))))) a (vN (n :: r)) := hS.same (sameN hfd)
      obtain ⟨x, gx⟩ := get_of (l := n :: r) (i := i) (by rw [List.length_cons]; omega)
      obtain ⟨y, gy⟩ := get_of (l := n :: r) (i := i + 1) (by rw [List.length_cons]; omega)
      have hne := M07.Unl.get un gx gy
      have em := M07.round_get (n :: r) i x y gx gy
      obtain ⟨_, s2, s3⟩ := M07.low_spec (x + y + 1) x y (by omega) hne
      have s4 : M07.mk x y = 2 * M07.low (x + y + 1) x y + (y / 2 ^ M07.low (x + y + 1) x y) % 2 := rfl
      generalize M07.low (x + y + 1) x y = L at s2 s3 s4
      refine ⟨.ref a, rfl, _, rfl, _, 1, rfl, rfl, hS'.ix (v := .int x) (at_of (j := i) (by omega) (vN_get gx)) ⟨.ref a, rfl, _, rfl, hS'.ix (v := .int y) (at_of (j := i + 1) (by omega) (vN_get gy)) ⟨_, _, _, rfl, ?_⟩⟩⟩
      refine ⟨fun m σ H' => ∃ t, m = L - t ∧ t ≤ L ∧ σ = [some (.ref a), some (.ref fd), some (.int (1 + i)), some (.int (t : Nat)), some (.int ((x / 2 ^ t : Nat) : Int)), some (.int ((y / 2 ^ t : Nat) : Int))] ∧
          H' = upd H fd (.lst (vN ((M07.round (n :: r)).take (i + 1)))), ⟨L, 0, rfl, Nat.zero_le _, ?_, rfl⟩, ?_⟩
      · simp
      · rintro m σ H' ⟨t, rfl, ht, rfl, rfl⟩
        refine ⟨_, rfl, _, 2, rfl, rfl, (show (0 : Int) < 2 by decide), _, rfl, _, 2, rfl, rfl, (show (0 : Int) < 2 by decide), rfl, _, rfl, ite2 (fun e => ?_) (fun e => ?_)⟩
        · have e1 : ((x / 2 ^ t : Nat) : Int) % 2 = ((y / 2 ^ t : Nat) : Int) % 2 := V.int.inj (of_decide_eq_true e)
          have e2 : (x / 2 ^ t) % 2 = (y / 2 ^ t) % 2 := by omega
          have lt : t < L := by
            rcases Nat.lt_or_ge t L with z | z
            · exact z
            · have : t = L := by omega
              subst this
              exact absurd e2 s2
          refine ⟨fun σ' H' => σ' = [some (.ref a), some (.ref fd), some (.int (1 + i)), some (.int ((t + 1 : Nat) : Nat)), some (.int ((x / 2 ^ (t + 1) : Nat) : Int)), some (.int ((y / 2 ^ (t + 1) : Nat) : Int))] ∧
              H' = upd H fd (.lst (vN ((M07.round (n :: r)).take (i + 1)))), fun σ' H' hN => ⟨L - (t + 1), by omega, t + 1, rfl, lt, hN.1, hN.2⟩, ?_⟩
          refine ⟨_, rfl, _, 1, rfl, rfl, _, rfl, _, 2, rfl, rfl, ⟨by decide, by decide⟩, _, rfl, _, 2, rfl, rfl, ⟨by decide, by decide⟩, _, _, _, rfl, ?_, rfl⟩
          rw [← half_pow x t, ← half_pow y t]
          rfl
        · have e2 : ¬ (x / 2 ^ t) % 2 = (y / 2 ^ t) % 2 := fun z => e (decide_eq_true (int_congr (by omega)))
          have eL : t = L := by
            rcases Nat.lt_or_ge t L with z | z
            · exact absurd (s3 t z) e2
            · omega
          subst eL
          refine ⟨.ref fd, rfl, .inl ⟨rfl, _, .inl (.inl upd_same)⟩, _, rfl, 2, _, rfl, rfl, .inl ⟨by decide, by decide⟩, _, rfl, _, 2, rfl, rfl, (show (0 : Int) < 2 by decide), _, _, rfl, rfl, fd, _, _, rfl, rfl, upd_same, ?_, ?_⟩
          · rw [vN_len]
            exact line5 (small_take (by rw [M07.round_length]; exact hl))
          · refine ⟨_, _, _, _, rfl, ?_⟩
            rw [upd_upd, take_more em, s4]
            refine congrArg (fun z => upd H fd (.lst z)) (Eq.trans ?_ (vN_app _ _).symm)
            exact congrArg (fun z => vN ((M07.round (n :: r)).take (i + 1)) ++ [z]) (int_congr (a := 2 * (t : Int) + ((y / 2 ^ t : Nat) : Int) % 2) (by omega))
    · obtain ⟨y2, y3, y4, y5, rfl, rfl⟩ := hp
      rw [hn, List.take_of_length_le (by rw [M07.round_length]; exact Nat.le_refl _)]
      exact ⟨.ref fd, rfl, q _ _ (sameN hfd) upd_same⟩
end
end C07

set_option Elab.async false
set_option linter.all false
set_option maxRecDepth 100000
namespace C07
open PySem PySem.Spec PyProof.Rows L2 Loc
/-! ### drawn integers -/
theorem unl_app : ∀ {ns : List Nat} {m : Nat}, M07.Unl ns → (∀ x, ns.getLast? = some x → x ≠ m) → M07.Unl (ns ++ [m])
  | [], _, _, _ => trivial
  | [a], m, _, h => ⟨h a rfl, trivial⟩
  | a :: b :: r, m, u, h => ⟨u.1, unl_app (ns := b :: r) u.2 fun x e => h x (by rw [List.getLast?_cons_cons]; exact e)⟩
theorem vN_data {K : PySem.W.Frag} {H : Hp} (ns : List Nat) : DpAll K H (vN ns) ((ns.map fun n : Nat => (n : Int)).map PyData.int) := by
  have e : vN ns = (ns.map fun n : Nat => (n : Int)).map V.int := by
    rw [List.map_map]
    rfl
  rw [e]
  exact DpAll.ints _
theorem lim_pos : (0 : Nat) < 2 ^ 100 := by decide +kernel
theorem lim_30 : (10 : Int) ^ (30 : Int).toNat ≤ 2 ^ 100 := by decide +kernel
theorem step71 {n i : Nat} (h : n ≤ 2 ^ 100 + i * 2 ^ 71 + 2 ^ 70 + 1) : n ≤ 2 ^ 100 + (i + 1) * 2 ^ 71 := by
  have e : (2 : Nat) ^ 71 = 2 * 2 ^ 70 := by decide +kernel
  have e1 : 1 ≤ (2 : Nat) ^ 70 := by decide +kernel
  rw [Nat.succ_mul]
  generalize i * 2 ^ 71 = z at h ⊢
  generalize (2 : Nat) ^ 100 = x at h ⊢
  rw [e]
  generalize (2 : Nat) ^ 70 = y at h e1 ⊢
  omega
theorem lim_71 : (2 : Nat) ^ 71 = 2 * 2 ^ 70 := by decide +kernel
section
variable {P : Program} {w : World} {K : PySem.W.Frag} {mg : Str → Option Value} {base : Heap}
theorem scInts : FnScope ["pot", "top", "found", "turn", "one"] ["pot"] (defScope sInts) := ⟨rfl, rfl, rfl, by decide +kernel, rfl, by decide +kernel, by decide +kernel⟩
def spInts : Sp := fun vs H Q _ => ∃ (p : Addr) (c : Nat), vs = [.ref p] ∧ Pot H p c ∧ c < 900000 ∧
  ∀ (H' : Hp) (q : Addr) (ns : List Nat), But p H H' → Pot H' p (c + 200) → H' q = some (.tup (vN ns)) → M07.Unl ns → ns.length ≤ 31 → (∀ n ∈ ns, n < 2 ^ 200) → Q (.ref q) H'
theorem ok_ints {f g o : Addr} {fd gd od : FuncData} {k : Nat} (F : Fun K "_law_integers" "_law_integers" sInts f fd) (T : Fun K "_law_take" "_law_take" sTake g gd) (gT : mg "_law_take" = some (.ref g)) (bT : Binds K gd ["pot", "bound"] [])
    (O : Fun K "_law_of" "_law_of" sOf o od) (gO : mg "_law_of" = some (.ref o)) (bO : Binds K od ["pot", "some"] []) (ml : mg "len" = none) (mr : mg "range" = none) (mt : mg "tuple" = none) :
    FnOk P w K mg base CX0 (k + 3) f fd ["pot"] spInts := by
  have GT : FnOk P w K mg base CX0 (k + 1) g gd ["pot", "bound"] spTake := ok_take T
  have GO : FnOk P w K mg base CX0 (k + 2) o od ["pot", "some"] spOf := ok_of O T gT bT ml
  refine F.ok scInts (fun vs H Q E h => ?_) (fun cdv A outer s H vs Q E hr h => ?_)
  · obtain ⟨p, c, rfl, _⟩ := h
    rfl
  · obtain ⟨p, c, rfl, hp, hc, q⟩ := h
    have h1 : Room (k + 1) (A.deeper (envOfC "_law_integers" (defScope sInts) s.heap.objs.size f cdv)) := hr.mono (by omega)
    refine ⟨_, pss_cons (ps_par (i := 1) (j := 2) (by rfl) scInts.nd rfl rfl (by decide) rfl rfl
          (pa_cons (pe_call GO hr (by rfl) gO O.kp bO .nil pass0 (pa_cons (pv 0) (pa_cons (pe_lst (pa_cons pe_int (pa_cons pe_int (pa_cons pe_int (pa_cons (pe_op op_pow pe_int pe_int) pa_nil))))) pa_nil))) (pa_cons (pe_lst pa_nil) pa_nil)) (by rfl))
      (pss_cons (ps_for PassesOwn.never rfl (pi_range1 (by rfl) mr (pa_cons (pe_call GT h1 (by rfl) gT T.kp bT .nil pass0 (pa_cons (pv 0) (pa_cons pe_int pa_nil))) pa_nil)) (pg_name (i := 3) scInts.nd rfl (.inl rfl))
        (pss_cons (ps_set (i := 4) scInts.nd rfl (.inl rfl) (pe_call GO hr (by rfl) gO O.kp bO .nil pass0 (pa_cons (pv 0) (pa_cons (pe_lst
            (pa_cons (pe_call GT h1 (by rfl) gT T.kp bT .nil pass0 (pa_cons (pv 0) (pa_cons (pv 1) pa_nil)))
            (pa_cons (pe_op op_add (pe_op op_pow pe_int pe_int) (pe_call GT h1 (by rfl) gT T.kp bT .nil pass0 (pa_cons (pv 0) (pa_cons pe_int pa_nil))))
            (pa_cons (pe_op op_shl pe_int (pe_call GT h1 (by rfl) gT T.kp bT .nil pass0 (pa_cons (pv 0) (pa_cons pe_int pa_nil)))) pa_nil)))) pa_nil))))
        (pss_cons (ps_if (PW.pt (pw_and (pt_cmpR (op_neD hr.units) (pv 2) (pe_lst pa_nil) (nomark _)) (pw_and1 (pt_cmpR op_eq (pe_call GT h1 (by rfl) gT T.kp bT .nil pass0 (pa_cons (pv 0) (pa_cons pe_int pa_nil))) pe_int (nomark _)))))
            (pss_one (ps_set (i := 4) scInts.nd rfl (.inl rfl) (pe_op op_add (pe_ix ix_list (pv 2) (pe_un un_neg pe_int) (fun _ _ => rfl)) (pe_op op_shl pe_int (pe_call GT h1 (by rfl) gT T.kp bT .nil pass0 (pa_cons (pv 0) (pa_cons pe_int pa_nil))))))) pss_nil)
        (pss_one (ps_expr (pe_bm PySem.F.plainAttrs_list PySem.F.slot_list_append PySem.F.type_list_append mt_append (pv 2)
            (pa_cons (pe_ifExp (PW.pt (pw_or (pt_cmpR (op_eqD hr.units) (pv 2) (pe_lst pa_nil) (nomark _)) (pw_or1 (pt_cmpR op_ne (pv 4) (pe_ix ix_list (pv 2) (pe_un un_neg pe_int) (fun _ _ => rfl)) (nomark _)))))
              (pv 4) (pe_op op_add (pv 4) pe_int)) pa_nil)))))))
      (pss_one (ps_ret (pe_callTy call_tuple_of (by rfl) mt (by decide +kernel) (pa_cons (pv 2) pa_nil))))), ?_⟩
    refine ⟨.ref p, rfl, 10, 30, rfl, rfl, ⟨by decide, by decide, by decide⟩, (show 4 ≤ sizeLine from by decide), fun l hl => ?_⟩
    refine ⟨p, l, _, c, rfl, hp.new hl, by omega, hp.ne hl, upd_same, List.cons_ne_nil _ _, (show 4 ≤ 1000 from by decide), fun j x H1 hj b1 p1 => ?_⟩
    have top : ∃ t : Int, x = .int t ∧ 0 < t ∧ t ≤ 2 ^ 100 := by
      match j, hj with
      | 0, hj => exact ⟨2, (Option.some.inj hj).symm, by decide, by decide +kernel⟩
      | 1, hj => exact ⟨6, (Option.some.inj hj).symm, by decide, by decide +kernel⟩
      | 2, hj => exact ⟨100, (Option.some.inj hj).symm, by decide, by decide +kernel⟩
      | 3, hj => exact ⟨_, (Option.some.inj hj).symm, by decide +kernel, lim_30⟩
      | j + 4, hj => cases hj
    obtain ⟨t, rfl, t0, t1⟩ := top
    refine ⟨(show 0 ≤ sizeLine from by decide), fun F' hF => ⟨_, _, rfl, ?_⟩⟩
    have b1 : But p H H1 := But.trans (.new hl) b1
    have nF : H F' = none := b1.freeP p1 hF
    refine ⟨.ref p, rfl, p, 31, c + 1, rfl, p1.new hF, by omega, by decide, by decide +kernel, fun d H2 d0 d1 b2 p2 => ⟨d, rfl, by omega, by omega, ?_⟩⟩
    have b2' : But p H H2 := (b1.trans (.new hF)).trans b2
    refine for_range (fun i σ H' => ∃ ns y3 y4, σ = [some (.ref p), some (.int t), some (.ref F'), y3, y4] ∧ ns.length = i ∧ M07.Unl ns ∧ (∀ n ∈ ns, n ≤ 2 ^ 100 + i * 2 ^ 71) ∧ H' F' = some (.lst (vN ns)) ∧ But p H H' ∧ Pot H' p (c + 2 + 6 * i))
      ⟨[], none, none, rfl, rfl, trivial, by simp, b2.at (p1.ne hF) upd_same, b2', p2⟩ (fun i σ H' hi hq => ?_) (fun σ H' hq => ?_)
    · obtain ⟨ns, y3, y4, rfl, e1, e2, e3, e4, e5, e6⟩ := hq
      have hi31 : i < 31 := by omega
      have tl : t < 2 ^ 1000 := Int.lt_of_le_of_lt t1 (by decide +kernel)
      refine ⟨.ref p, rfl, .ref p, rfl, .int t, rfl, p, t, _, rfl, e6, by omega, t0, tl, fun d1 H3 a1 a2 b3 p3 => ?_⟩
      refine ⟨2, 40, rfl, rfl, ⟨by decide, by decide, by decide⟩, .ref p, rfl, p, 3, _, rfl, p3, by omega, by decide, by decide +kernel, fun d2 H4 a3 a4 b4 p4 => ⟨_, _, rfl, rfl, ?_⟩⟩
      refine ⟨.ref p, rfl, p, 60, _, rfl, p4, by omega, by decide, by decide +kernel, fun d3 H5 a5 a6 b5 p5 => ⟨1, _, rfl, rfl, ⟨a5, by omega, by decide⟩, (show 3 ≤ sizeLine from by decide), fun l3 hl3 => ?_⟩⟩
      have e5' : But p H H5 := ((e5.trans b3).trans b4).trans b5
      have nF1 : F' ≠ p := hp.ne nF
      refine ⟨p, l3, _, _, rfl, p5.new hl3, by omega, p5.ne hl3, upd_same, List.cons_ne_nil _ _, (show 3 ≤ 1000 from by decide), fun j x H6 hj b6 p6 => ?_⟩
      have e4' : H6 F' = some (.lst (vN ns)) := b6.at nF1 (((b3.trans b4).trans b5 |>.trans (.new hl3)).at nF1 e4)
      have e5' : But p H H6 := (e5'.trans (.new hl3)).trans b6
      have one : ∃ m : Nat, x = .int m ∧ m ≤ 2 ^ 100 := by
        match j, hj with
        | 0, hj => exact ⟨d1.toNat, (Option.some.inj hj).symm.trans (int_congr (by omega)), by omega⟩
        | 1, hj =>
          refine ⟨2 ^ 40 + d2.toNat, (Option.some.inj hj).symm.trans (int_congr ?_), by omega⟩
          show (2 : Int) ^ 40 + d2 = _
          omega
        | 2, hj =>
          obtain ⟨m, em, _, lm⟩ := pow_of (n := 60) a5 (by omega)
          exact ⟨m, (Option.some.inj hj).symm.trans (int_congr em), Nat.le_trans lm (by decide +kernel)⟩
        | j + 3, hj => cases hj
      obtain ⟨m, rfl, m1⟩ := one
      -- if found != [] and ..
      dsimp only [gName, tSeq, tIfS]
      refine anyT (fun b H' => (b = true → ns ≠ []) ∧ H' F' = some (.lst (vN ns)) ∧ But p H H' ∧ Pot H' p (c + 2 + 6 * i + 5)) (fun b H7 hS => ?_) (fun R hR => ?_)
      · obtain ⟨nb, f7, k7, p7⟩ := hS
        refine joinS (fun σ' H' => ∃ m' : Nat, σ' = [some (.ref p), some (.int t), some (.ref F'), some (.int (0 + i)), some (.int m')] ∧ m' ≤ 2 ^ 100 + i * 2 ^ 71 + 2 ^ 70 ∧ H' F' = some (.lst (vN ns)) ∧ But p H H' ∧ Pot H' p (c + 2 + 6 * i + 6))
          (fun σ8 H8 hS8 => ?_) (fun eb N hN => ?_) (fun eb N hN => ?_)
        · obtain ⟨m', rfl, m2, f8, k8, p8⟩ := hS8
          refine ⟨.ref F', rfl, .inl ⟨rfl, _, .inl (.inl f8)⟩, ?_⟩
          dsimp only [tCons]
          refine anyE (fun v H' => ∃ m3 : Nat, v = .int m3 ∧ m3 ≤ 2 ^ 100 + i * 2 ^ 71 + 2 ^ 70 + 1 ∧ M07.Unl (ns ++ [m3]) ∧ H' F' = some (.lst (vN ns)) ∧ But p H H' ∧ Pot H' p (c + 2 + 6 * i + 6)) (fun v H9 hS9 => ?_) (fun R hR => ?_)
          · obtain ⟨m3, rfl, m4, u9, f9, k9, p9⟩ := hS9
            refine ⟨F', _, _, rfl, rfl, f9, ?_, ns ++ [m3], _, _, rfl, by rw [List.length_append, e1]; rfl, u9, fun n hn => ?_, ?_, k9.wr nF, ?_⟩
            · rw [vN_len]
              exact line5 (by omega)
            · refine step71 (i := i) ?_
              rcases List.mem_append.mp hn with hn | hn
              · exact Nat.le_trans (e3 n hn) (Nat.le_trans (Nat.le_add_right _ _) (Nat.le_add_right _ _))
              · have : n = m3 := by simpa using hn
                rw [this]
                exact m4
            · rw [upd_same, vN_app]
            · exact ((p9.oth nF1.symm).le (by omega))
          · refine ⟨.ref F', rfl, (show 0 ≤ sizeLine from by decide), fun l9 hl9 => ⟨_, _, .lst (.inl (.inl ?_)) (vN_data ns), .lst (.inl (.inl upd_same)) .nil, (shaped_ints _).1, (shaped_ints []).1, _, rfl, ?_⟩⟩
            · rw [upd_ne (ne_of_none f8 hl9)]
              exact f8
            · rw [eqv_empty]
              have f9 : (upd H8 l9 (.lst [])) F' = some (.lst (vN ns)) := by
                rw [upd_ne (ne_of_none f8 hl9)]
                exact f8
              rcases List.eq_nil_or_concat ns with rfl | ⟨init, z, rfl⟩
              · refine ⟨.int m', rfl, hR _ _ ⟨m', rfl, by omega, trivial, f9, k8.trans (.new hl9), p8.new hl9⟩⟩
              · rw [List.concat_eq_append] at *
                have z0 : ((init ++ [z]).map fun n : Nat => (n : Int)).isEmpty = false := by simp
                rw [z0]
                refine ⟨.int m', rfl, .ref F', rfl, 1, rfl, F', _, -1, .int z, rfl, rfl, .inl (.inl f9), by rw [vN_app]; exact atI_last _ _, rfl, _, rfl, ?_⟩
                by_cases hz : m' = z
                · subst hz
                  rw [decide_eq_true rfl]
                  refine ⟨.int m', rfl, m', 1, rfl, rfl, hR _ _ ⟨m' + 1, rfl, by omega, unl_app e2 (fun x ex => ?_), f9, k8.trans (.new hl9), p8.new hl9⟩⟩
                  rw [List.getLast?_append] at ex
                  have : m' = x := by simpa using ex
                  omega
                · rw [decide_eq_false (fun k => hz (by have := V.int.inj k; omega))]
                  refine ⟨.int m', rfl, hR _ _ ⟨m', rfl, by omega, unl_app e2 (fun x ex => ?_), f9, k8.trans (.new hl9), p8.new hl9⟩⟩
                  rw [List.getLast?_append] at ex
                  have : z = x := by simpa using ex
                  omega
        · have hne := nb eb
          rcases List.eq_nil_or_concat ns with rfl | ⟨init, z, rfl⟩
          · exact absurd rfl hne
          · rw [List.concat_eq_append] at *
            refine ⟨.ref F', rfl, 1, rfl, F', _, -1, .int z, rfl, rfl, .inl (.inl f7), by rw [vN_app]; exact atI_last _ _, .ref p, rfl, p, 70, _, rfl, p7, by omega, by decide, by decide +kernel, fun d4 H8 a7 a8 b8 p8 => ⟨1, _, rfl, rfl, ⟨a7, by omega, by decide⟩, _, _, rfl, rfl, ?_⟩⟩
            obtain ⟨m5, em, _, lm⟩ := pow_of (n := 70) a7 (by omega)
            refine hN _ _ ⟨z + m5, ?_, ?_, b8.at nF1 f7, k7.trans b8, p8⟩
            · show [some (V.ref p), some (.int t), some (.ref F'), some (.int (0 + i)), some (.int ((z : Int) + 1 * 2 ^ d4.toNat))] = _
              rw [em]
              rfl
            · have := e3 z (by simp)
              omega
        · exact hN _ _ ⟨m, rfl, by omega, f7, k7, p7.le (by omega)⟩
      · refine ⟨.ref F', rfl, (show 0 ≤ sizeLine from by decide), fun l9 hl9 => ⟨_, _, .lst (.inl (.inl ?_)) (vN_data ns), .lst (.inl (.inl upd_same)) .nil, (shaped_ints _).1, (shaped_ints []).1, _, rfl, ?_⟩⟩
        · rw [upd_ne (ne_of_none e4' hl9)]
          exact e4'
        · rw [eqv_empty]
          have f9 : (upd H6 l9 (.lst [])) F' = some (.lst (vN ns)) := by
            rw [upd_ne (ne_of_none e4' hl9)]
            exact e4'
          cases ns with
          | nil => exact hR _ _ ⟨(fun z => nomatch z), f9, e5'.trans (.new hl9), (p6.new hl9).le (by omega)⟩
          | cons n r =>
            refine ⟨.ref p, rfl, p, 3, _, rfl, p6.new hl9, by omega, by decide, by decide +kernel, fun d4 H8 a7 a8 b8 p8 => ⟨rfl, _, rfl, hR _ _ ⟨fun _ => List.cons_ne_nil _ _, b8.at nF1 f9, (e5'.trans (.new hl9)).trans b8, p8.le (by omega)⟩⟩⟩
    · obtain ⟨ns, y3, y4, rfl, e1, e2, e3, e4, e5, e6⟩ := hq
      refine ⟨.ref F', rfl, F', _, rfl, .inl ⟨.inl (.inl e4), fun l' hl' => ?_⟩⟩
      refine q _ _ ns (e5.trans (.new hl')) ((e6.new hl').le (by omega)) upd_same e2 (by omega) fun n hn => ?_
      have h2 := e3 n hn
      have h3 : d.toNat * 2 ^ 71 ≤ 31 * 2 ^ 71 := Nat.mul_le_mul_right _ (by omega)
      exact Nat.lt_of_le_of_lt (Nat.le_trans h2 (Nat.add_le_add_left h3 _)) (by decide +kernel)
end
end C07

set_option Elab.async false
set_option linter.all false
set_option maxRecDepth 100000
namespace C07
open PySem PySem.Spec PyProof.Rows L2 Loc RZ
/-! ### the law -/
theorem low_le : ∀ n a b : Nat, M07.low n a b ≤ n
  | 0, _, _ => Nat.le_refl _
  | n + 1, a, b => by
    unfold M07.low
    split
    · have := low_le n (a / 2) (b / 2)
      omega
    · omega
theorem mk_le (a b : Nat) : M07.mk a b ≤ 2 * (a + b) + 3 := by
  have h := low_le (a + b + 1) a b
  have h2 := Nat.mod_lt (b / 2 ^ M07.low (a + b + 1) a b) (show 0 < 2 by decide)
  unfold M07.mk
  omega
theorem marks_le {B : Nat} : ∀ (a : Nat) (l : List Nat), a < B → (∀ n ∈ l, n < B) → ∀ n ∈ M07.marks a l, n < 4 * B + 4
  | _, [], _, _, n, hn => nomatch hn
  | a, b :: r, ha, h, n, hn => by
    have hb := h b List.mem_cons_self
    rcases List.mem_cons.mp hn with e | hn
    · have := mk_le a b
      omega
    · exact marks_le b r hb (fun m hm => h m (List.mem_cons_of_mem _ hm)) n hn
theorem round_le {B : Nat} {l : List Nat} (h : ∀ n ∈ l, n < B) : ∀ n ∈ M07.round l, n < 4 * B + 4 := by
  cases l with
  | nil => exact fun n hn => nomatch hn
  | cons a r =>
    intro n hn
    have ha := h a List.mem_cons_self
    rcases List.mem_cons.mp hn with e | hn
    · omega
    · exact marks_le a r ha (fun m hm => h m (List.mem_cons_of_mem _ hm)) n hn
theorem unl_of : ∀ {l : List Nat}, (∀ j x y, l[j]? = some x → l[j + 1]? = some y → x ≠ y) → M07.Unl l
  | [], _ => trivial
  | [_], _ => trivial
  | a :: b :: r, h => ⟨h 0 a b rfl rfl, unl_of (l := b :: r) fun j x y h1 h2 => h (j + 1) x y h1 h2⟩
/-- a row that the law asks about -/
def RowOk (K : PySem.W.Frag) (H : Hp) (v : V) : Prop := ∃ r ns, v = .ref r ∧ SqT K H r (vN ns) ∧ M07.Unl ns ∧ ns.length ≤ 1100 ∧ ∀ n ∈ ns, n < 2 ^ 200
theorem RowOk.same {K : PySem.W.Frag} {H H' : Hp} {v : V} (h : RowOk K H v) (e : Same H H') : RowOk K H' v := by
  obtain ⟨r, ns, rfl, h1, h2⟩ := h
  exact ⟨r, ns, rfl, sameT e h1, h2⟩
theorem big200 : 4 * 2 ^ 200 + 4 < 10 ^ 70 := by decide +kernel
section
variable {P : Program} {w : World} {K : PySem.W.Frag} {mg : Str → Option Value} {base : Heap}
abbrev nmLaw : List Str := ["script", "k", "pot", "far", "row", "told", "turn", "one", "other"]
theorem scLaw : FnScope nmLaw ["script"] (defScope sLaw) := ⟨rfl, rfl, rfl, by decide +kernel, rfl, by decide +kernel, by decide +kernel⟩
def spLaw (K : PySem.W.Frag) : Sp := fun vs H Q _ => ∃ (a : Addr) (ns : List Int), vs = [.ref a] ∧ SqL K H a (ns.map V.int) ∧ ns.length ≤ 63 ∧ ∀ H', Q (.bl true) H'
/-- what the module's names hold -/
structure Facts (K : PySem.W.Frag) (mg : Str → Option Value) (fP fT fO fI fR fM fN : Addr) (dP dT dO dI dR dM dN : FuncData) : Prop where
  P : Fun K "_law_pot" "_law_pot" sPot fP dP
  T : Fun K "_law_take" "_law_take" sTake fT dT
  O : Fun K "_law_of" "_law_of" sOf fO dO
  I : Fun K "_law_integers" "_law_integers" sInts fI dI
  R : Fun K "_law_round" "_law_round" sRound fR dR
  M : Fun K "_next_mark" "_next_mark" sNm fM dM
  N : Fun K "next_marks" "next_marks" sNext fN dN
  gP : mg "_law_pot" = some (.ref fP)
  gT : mg "_law_take" = some (.ref fT)
  gO : mg "_law_of" = some (.ref fO)
  gI : mg "_law_integers" = some (.ref fI)
  gR : mg "_law_round" = some (.ref fR)
  gM : mg "_next_mark" = some (.ref fM)
  gN : mg "next_marks" = some (.ref fN)
  bP : Binds K dP ["script", "k"] []
  bT : Binds K dT ["pot", "bound"] []
  bO : Binds K dO ["pot", "some"] []
  bI : Binds K dI ["pot"] []
  bR : Binds K dR ["some"] []
  bM : Binds K dM ["some", "place"] []
  bN : Binds K dN ["some"] []
  len : mg "len" = none
  abs : mg "abs" = none
  int : mg "int" = none
  range : mg "range" = none
  tuple : mg "tuple" = none
  max : mg "max" = none
  min : mg "min" = none
  repr : mg "repr" = none
  all : mg "all" = none
  zip : mg "zip" = none
theorem ok_law {f : Addr} {fd : FuncData} (F : Fun K "law" "law" sLaw f fd) {fP fT fO fI fR fM fN : Addr} {dP dT dO dI dR dM dN : FuncData} (X : Facts K mg fP fT fO fI fR fM fN dP dT dO dI dR dM dN) :
    FnG P w K mg base CX0 4 f fd ["script"] (spLaw K) := by
  have GP : FnOk P w K mg base CX0 3 fP dP ["script", "k"] (spPot K) := ok_pot X.P X.len X.abs X.int
  have GT : FnOk P w K mg base CX0 3 fT dT ["pot", "bound"] spTake := ok_take X.T
  have GI : FnOk P w K mg base CX0 3 fI dI ["pot"] spInts := ok_ints X.I X.T X.gT X.bT X.O X.gO X.bO X.len X.range X.tuple
  have GR : FnOk P w K mg base CX0 3 fR dR ["some"] (spRound K) := ok_round X.R X.len X.range
  have GN : FnOk P w K mg base CX0 3 fN dN ["some"] (spNext K) := ok_next X.N X.M X.gM X.bM X.len X.range X.tuple
  refine fun_okG F scLaw (fun vs H Q E h => ?_) (fun cdv A outer s H vs Q E hg hr h => ?_)
  · obtain ⟨a, ns, rfl, _⟩ := h
    rfl
  · obtain ⟨a, ns, rfl, hS, hlen, q⟩ := h
    refine ⟨_, pss_cons (ps_for PassesOwn.never rfl (pi_range1 (by rfl) X.range (pa_cons (pe_callB (L2.call_max2 rfl) (by rfl) X.max (by decide +kernel) (pa_cons pe_int (pa_cons (pe_callB (L2.call_min2 rfl) (by rfl) X.min (by decide +kernel)
            (pa_cons pe_int (pa_cons (pe_callB call_len_seq (by rfl) X.len PySem.boot_len (pa_cons (pv 0) pa_nil)) pa_nil))) pa_nil))) pa_nil)) (pg_name (i := 1) scLaw.nd rfl (.inl rfl))
        (pss_cons (ps_set (i := 2) scLaw.nd rfl (.inr rfl) (pe_call GP hr (by rfl) X.gP X.P.kp X.bP .nil pass0 (pa_cons (pv 0) (pa_cons (pv 1) pa_nil))))
        (pss_cons (ps_setLc (i := 3) (own := [("turn", 6)]) (g := gName 6) (tt := tYes) rfl scLaw.nd rfl rfl (sw_true rfl rfl rfl (by decide +kernel))
            (pi_range1 (by rfl) X.range (pa_cons (pe_op op_add pe_int (pe_op op_mul pe_int (pe_callTy call_int1 (by rfl) X.int (by decide +kernel) (pa_cons (pe_cmpR op_eq (pv 1) pe_int (nomark _)) pa_nil)))) pa_nil))
            (blkOk_by (N := nmLaw) (sc := defScope sLaw) (by decide +kernel)) (fun _ _ _ _ _ => pg_name (i := 6) scLaw.nd rfl (Or.inl rfl)) (fun _ _ _ _ _ => pts_nil)
            (fun _ _ _ _ _ => pe_op op_add (pe_op op_add (pe_op op_mul (pe_op op_mod (pv 6) pe_int) (pe_op op_pow pe_int pe_int))
              (pe_op op_mul pe_int (pe_call GT hr (by rfl) X.gT X.T.kp X.bT .nil pass0 (pa_cons (pv 2) (pa_cons (pe_op op_pow pe_int pe_int) pa_nil))))) (pe_op op_mod (pv 6) pe_int)))
        (pss_one (ps_for PassesOwn.never rfl (pi_list (pe_op op_cat
            (pe_lc (own := [("turn", 6)]) (g := gName 6) (tt := tYes) rfl scLaw.nd (pi_range1 (by rfl) X.range (pa_cons pe_int pa_nil)) (blkOk_by (N := nmLaw) (sc := defScope sLaw) (by decide +kernel))
              (fun _ _ _ _ _ => pg_name (i := 6) scLaw.nd rfl (Or.inl rfl)) (fun _ _ _ _ _ => pts_nil) (fun _ _ _ _ _ => pe_call GI hr (by rfl) X.gI X.I.kp X.bI .nil pass0 (pa_cons (pv 2) pa_nil)))
            (pe_lst (pa_cons (pe_tup pa_nil) (pa_cons (pe_tup (pa_cons pe_int pa_nil)) (pa_cons (pe_tup (pa_cons pe_int (pa_cons pe_int pa_nil))) (pa_cons (pe_tup (pa_cons pe_int (pa_cons pe_int (pa_cons pe_int (pa_cons pe_int pa_nil)))))
              (pa_cons (pe_callTy call_tuple_of (by rfl) X.tuple (by decide +kernel) (pa_cons (pv 3) pa_nil)) pa_nil)))))))) (pg_name (i := 4) scLaw.nd rfl (.inl rfl))
          (pss_cons (ps_set (i := 5) scLaw.nd rfl (.inl rfl) (pe_call GN hr (by rfl) X.gN X.N.kp X.bN .nil pass0 (pa_cons (pv 4) pa_nil)))
          (pss_cons (ps_if (pt_cmpR op_ne (pe_callB (call_rep hr hg) (by rfl) X.repr PyProof.Rows.boot_repr (pa_cons (pv 5) pa_nil))
              (pe_callB (call_rep hr hg) (by rfl) X.repr PyProof.Rows.boot_repr (pa_cons (pe_ifExp (pt_cmpR (op_neD hr.units) (pv 4) (pe_tup pa_nil) (nomark _))
                (pe_callTy call_tuple_of (by rfl) X.tuple (by decide +kernel) (pa_cons (pe_call GR hr (by rfl) X.gR X.R.kp X.bR .nil pass0 (pa_cons (pv 4) pa_nil)) pa_nil)) (pe_tup pa_nil)) pa_nil)) (nomark _))
            (pss_one (ps_ret pe_bl)) pss_nil)
          (pss_one (ps_if (pt_not (pt_val (pe_callB (cr_all rfl) (by rfl) X.all PyProof.Rows.boot_all (pa_cons
              (pe_lc (own := [("one", 7), ("other", 8)]) (g := gTup K 2 (gCons (gName 7) (gCons (gName 8) gNil))) (tt := tYes) rfl scLaw.nd
                (pi_zipA (by rfl) X.zip (pa_cons (pv 5) (pa_cons (pe_slice sl_tupA (pv 5) (po_some pe_int) po_none) pa_nil))) (blkOk_by (N := nmLaw) (sc := defScope sLaw) (by decide +kernel))
                (fun _ _ _ _ _ => pg_tup rfl (pgs_cons (pg_name (i := 7) scLaw.nd rfl (Or.inl rfl) (hf := Or.inr rfl)) (pgs_cons (pg_name (i := 8) scLaw.nd rfl (Or.inl rfl) (hf := Or.inr rfl)) pgs_nil))) (fun _ _ _ _ _ => pts_nil)
                (fun _ _ _ _ _ => pe_cmpR op_ne (pv 7) (pv 8) (nomark _))) pa_nil))))
            (pss_one (ps_ret pe_bl)) pss_nil)))))))))
      (pss_one (ps_ret pe_bl)), ?_⟩
    refine ⟨.ref a, rfl, a, _, rfl, .inl hS, 3, _, rfl, 1, _, rfl, _, rfl, ?_, ?_, ?_⟩
    · show -(2 ^ 62) ≤ (if (if (((ns.map V.int).length : Nat) : Int) < 3 then (((ns.map V.int).length : Nat) : Int) else 3) > 1 then (if (((ns.map V.int).length : Nat) : Int) < 3 then (((ns.map V.int).length : Nat) : Int) else 3) else 1)
      split <;> (try split) <;> omega
    · show (if (if (((ns.map V.int).length : Nat) : Int) < 3 then (((ns.map V.int).length : Nat) : Int) else 3) > 1 then (if (((ns.map V.int).length : Nat) : Int) < 3 then (((ns.map V.int).length : Nat) : Int) else 3) else 1) < 2 ^ 62
      split <;> (try split) <;> omega
    have turns : (if (if (((ns.map V.int).length : Nat) : Int) < 3 then (((ns.map V.int).length : Nat) : Int) else 3) > 1 then (if (((ns.map V.int).length : Nat) : Int) < 3 then (((ns.map V.int).length : Nat) : Int) else 3) else 1).toNat ≤ 3 := by
      split <;> (try split) <;> omega
    refine for_range (fun i σ H' => ∃ y1 y2 y3 y4 y5 y6 y7 y8, σ = [some (.ref a), y1, y2, y3, y4, y5, y6, y7, y8] ∧ Same H H') ⟨none, none, none, none, none, none, none, none, rfl, Same.refl H⟩ (fun k σ H1 hk hp => ?_) (fun σ H' _ => q H')
    obtain ⟨y1, y2, y3, y4, y5, y6, y7, y8, rfl, sm⟩ := hp
    have hk3 : k < 3 := Nat.lt_of_lt_of_le hk turns
    -- pot = _law_pot(script, k)
    refine ⟨.ref a, rfl, _, rfl, a, ns, k, ?_, sm.seq hS, by omega, by omega, fun p o np po => ?_⟩
    · show [V.ref a, V.int (0 + (k : Int))] = _
      rw [Int.zero_add]
    -- far
    refine ⟨_, rfl, rfl, .inr ⟨_, rfl, 1000, _, rfl, rfl, .inl ⟨by decide, by decide⟩, 100, _, rfl, rfl, _, rfl, ?_, ?_, fun D nD => ?_⟩⟩
    · show -(2 ^ 62) ≤ 100 + 1000 * (if decide (V.int (0 + (k : Int)) = V.int 0) = true then (1 : Int) else 0)
      split <;> decide
    · show 100 + 1000 * (if decide (V.int (0 + (k : Int)) = V.int 0) = true then (1 : Int) else 0) < 2 ^ 62
      split <;> decide
    have turns2 : (100 + 1000 * (if decide (V.int (0 + (k : Int)) = V.int 0) = true then (1 : Int) else 0)).toNat ≤ 1100 := by
      split <;> decide
    have nDp : D ≠ p := (Pot.put po).ne nD
    have b0 : But p (upd H1 p o) (upd (upd H1 p o) D (.lst [])) := .new nD
    refine lc_range (fun i H' => ∃ fs : List Nat, fs.length = i ∧ (∀ (j n : Nat), fs[j]? = some n → n % 2 = j % 2 ∧ n < 2 ^ 30) ∧ H' D = some (.lst (vN fs)) ∧ But p (upd H1 p o) H' ∧ Pot H' p i)
      ⟨[], rfl, fun j n hj => by simp at hj, upd_same, b0, (Pot.put po).new nD⟩ (fun i H' hi hp => ?_) (fun H2 hp => ?_)
    · obtain ⟨fs, e1, e2, e3, e4, e5⟩ := hp
      have hi' : i < 1100 := Nat.lt_of_lt_of_le hi turns2
      refine ⟨rfl, _, rfl, _, 2, rfl, rfl, (show (0 : Int) < 2 by decide), 10, 7, rfl, rfl, ⟨by decide, by decide, by decide⟩, _, _, rfl, rfl, .inr ⟨by decide, by decide⟩, .ref p, rfl, 10, 6, rfl, rfl, ⟨by decide, by decide, by decide⟩,
        p, _, i, rfl, e5, by omega, (by show (0 : Int) < 10 ^ (6 : Int).toNat; decide), (by show (10 : Int) ^ (6 : Int).toNat < 2 ^ 1000; decide +kernel), fun d H4 d0 d1 b4 p4 => ?_⟩
      refine ⟨2, d, rfl, rfl, .inl ⟨by decide, by decide⟩, _, _, rfl, rfl, _, rfl, _, 2, rfl, rfl, (show (0 : Int) < 2 by decide), _, _, rfl, rfl, vN fs, b4.at nDp e3, ?_, ?_⟩
      · rw [vN_len]
        exact line5 (by omega)
      · have d1' : d < 1000000 := d1
        have ev : (0 + (i : Int)) % 2 * (10 : Int) ^ (7 : Int).toNat + 2 * d + (0 + (i : Int)) % 2 = ((i % 2 * 10000000 + 2 * d.toNat + i % 2 : Nat) : Int) := by
          show (0 + (i : Int)) % 2 * 10000000 + 2 * d + (0 + (i : Int)) % 2 = _
          omega
        refine ⟨fs ++ [i % 2 * 10000000 + 2 * d.toNat + i % 2], by rw [List.length_append, e1]; rfl, fun j n hj => ?_, ?_, (e4.trans b4).wr nD, p4.oth nDp.symm⟩
        · by_cases c : j < fs.length
          · rw [List.getElem?_append_left c] at hj
            exact e2 j n hj
          · rw [List.getElem?_append_right (by omega)] at hj
            have cj : j - fs.length = 0 := by
              rcases Nat.eq_zero_or_pos (j - fs.length) with z | z
              · exact z
              · rw [List.getElem?_eq_none_iff.mpr (by simp; omega)] at hj
                cases hj
            rw [cj] at hj
            have en := Option.some.inj hj
            have ej : j = i := by omega
            subst ej
            omega
        · rw [upd_same, vN_app]
          exact congrArg (fun z => some (HO.lst (vN fs ++ [z]))) (int_congr ev)
    obtain ⟨fs, f1, f2, f3, b2, p2⟩ := hp
    have unF : M07.Unl fs := unl_of fun j x y hx hy e => by
      have h1 := (f2 j x hx).1
      have h2 := (f2 (j + 1) y hy).1
      omega
    have lF : fs.length ≤ 1100 := by rw [f1]; exact turns2
    -- the rows
    refine ⟨8, rfl, by decide, by decide, fun D2 nD2 => ?_⟩
    have nD2p : D2 ≠ p := p2.ne nD2
    refine lc_range (fun i H' => ∃ rows : List V, rows.length = i ∧ (∀ v ∈ rows, RowOk K H' v) ∧ H' D2 = some (.lst rows) ∧ But p H2 H' ∧ Pot H' p (1100 + 200 * i))
      ⟨[], rfl, (fun v hv => nomatch hv), upd_same, .new nD2, (p2.new nD2).le (by omega)⟩ (fun i H' hi hp => ?_) (fun H3 hp => ?_)
    · obtain ⟨rows, e1, e2, e3, e4, e5⟩ := hp
      have hi' : i < 8 := hi
      refine ⟨rfl, .ref p, rfl, p, _, rfl, e5, by omega, fun H4 r rs b4 p4 hr4 ur lr br => ⟨rows, b4.at nD2p e3, line5 (by omega), rows ++ [.ref r], by rw [List.length_append, e1]; rfl, fun v hv => ?_, upd_same, (e4.trans b4).wr nD2, (p4.oth nD2p.symm).le (by omega)⟩⟩
      have nr : r ≠ D2 := ne_of hr4 (b4.at nD2p e3) (by intro z; cases z)
      rcases List.mem_append.mp hv with hv | hv
      · obtain ⟨r', ns', rfl, h1, h2⟩ := e2 v hv
        obtain ⟨ys, ey⟩ := e5.ls
        have h1' := b4.sqt ey h1
        exact ⟨r', ns', rfl, But.sqt (p := D2) .set (b4.at nD2p e3) h1', h2⟩
      · have : v = .ref r := by simpa using hv
        subst this
        exact ⟨r, rs, rfl, .inl (.inl (by rw [upd_ne nr]; exact hr4)), ur, by omega, br⟩
    obtain ⟨rows, r1, r2, r3, b3, p3⟩ := hp
    refine ⟨(show 0 ≤ sizeLine from by decide), fun t1 n1 => ⟨(show 1 ≤ sizeLine from by decide), fun t2 n2 => ⟨(show 2 ≤ sizeLine from by decide), fun t3 n3 => ⟨(show 4 ≤ sizeLine from by decide), fun t4 n4 => ?_⟩⟩⟩⟩
    have q1 : Same H3 _ := sameN (o := .tup []) n1
    have q2 := q1.trans (sameN (o := .tup [.int 5]) n2)
    have q3 := q2.trans (sameN (o := .tup [.int 0, .int 1]) n3)
    have q4 := q3.trans (sameN (o := .tup [.int 5, .int 7, .int 8, .int 7]) n4)
    have g3 : H3 D = some (.lst (vN fs)) := b3.at nDp f3
    refine ⟨.ref D, rfl, D, vN fs, rfl, .inl ⟨.inl (.inl (q4 _ _ g3)), fun t5 n5 => ⟨(show 5 ≤ sizeLine from by decide), fun l5 m5 => ?_⟩⟩⟩
    have q5 := q4.trans (sameN (o := .tup (vN fs)) n5)
    have q6 := q5.trans (sameN (o := .lst [.ref t1, .ref t2, .ref t3, .ref t4, .ref t5]) m5)
    refine ⟨D2, l5, rows, _, rfl, rfl, q6 _ _ r3, upd_same, (by rw [r1]; exact (show 8 + 5 ≤ sizeLine from by decide)), fun LL nL => ⟨LL, rfl, ⟨_, .inl (.inl upd_same)⟩, ?_⟩⟩
    have k5 := sameN (o := .lst [.ref t1, .ref t2, .ref t3, .ref t4, .ref t5]) m5
    have kL := sameN (o := .lst (rows ++ [.ref t1, .ref t2, .ref t3, .ref t4, .ref t5])) nL
    have k4 := (sameN (o := .tup (vN fs)) n5).trans (k5.trans kL)
    have k3 := (sameN (o := .tup [.int 5, .int 7, .int 8, .int 7]) n4).trans k4
    have k2 := (sameN (o := .tup [.int 0, .int 1]) n3).trans k3
    have k1 := (sameN (o := .tup [.int 5]) n2).trans k2
    have all9 : ∀ v ∈ rows ++ [V.ref t1, .ref t2, .ref t3, .ref t4, .ref t5], RowOk K (upd (upd (upd (upd (upd (upd (upd H3 t1 (.tup [])) t2 (.tup [.int 5])) t3 (.tup [.int 0, .int 1])) t4 (.tup [.int 5, .int 7, .int 8, .int 7])) t5 (.tup (vN fs)))
        l5 (.lst [.ref t1, .ref t2, .ref t3, .ref t4, .ref t5])) LL (.lst (rows ++ [.ref t1, .ref t2, .ref t3, .ref t4, .ref t5]))) v := fun v hv => by
      rcases List.mem_append.mp hv with hv | hv
      · exact (r2 v hv).same (q6.trans kL)
      · rcases List.mem_cons.mp hv with e | hv
        · exact ⟨t1, [], e, .inl (.inl (k1 _ _ upd_same)), trivial, by decide, (fun n hn => nomatch hn)⟩
        rcases List.mem_cons.mp hv with e | hv
        · exact ⟨t2, [5], e, .inl (.inl (k2 _ _ upd_same)), trivial, by decide, by decide +kernel⟩
        rcases List.mem_cons.mp hv with e | hv
        · exact ⟨t3, [0, 1], e, .inl (.inl (k3 _ _ upd_same)), ⟨by decide, trivial⟩, by decide, by decide +kernel⟩
        rcases List.mem_cons.mp hv with e | hv
        · exact ⟨t4, [5, 7, 8, 7], e, .inl (.inl (k4 _ _ upd_same)), ⟨by decide, by decide, by decide, trivial⟩, by decide, by decide +kernel⟩
        rcases List.mem_cons.mp hv with e | hv
        · refine ⟨t5, fs, e, .inl (.inl (k5.trans kL _ _ upd_same)), unF, lF, fun n hn => ?_⟩
          obtain ⟨j, hj⟩ := List.getElem?_of_mem hn
          exact Nat.lt_trans (f2 j n hj).2 (by decide +kernel)
        · cases hv
    have sL := (sm.trans ((But.trans (.set (H := H1) (o := o)) (b2.trans b3)).same np)).trans (q6.trans kL)
    have eLL := upd_same (H := upd (upd (upd (upd (upd (upd H3 t1 (.tup [])) t2 (.tup [.int 5])) t3 (.tup [.int 0, .int 1])) t4 (.tup [.int 5, .int 7, .int 8, .int 7])) t5 (.tup (vN fs)))
        l5 (.lst [.ref t1, .ref t2, .ref t3, .ref t4, .ref t5])) (a := LL) (o := .lst (rows ++ [.ref t1, .ref t2, .ref t3, .ref t4, .ref t5]))
    generalize upd (upd (upd (upd (upd (upd (upd H3 t1 (.tup [])) t2 (.tup [.int 5])) t3 (.tup [.int 0, .int 1])) t4 (.tup [.int 5, .int 7, .int 8, .int 7])) t5 (.tup (vN fs)))
        l5 (.lst [.ref t1, .ref t2, .ref t3, .ref t4, .ref t5])) LL (.lst (rows ++ [.ref t1, .ref t2, .ref t3, .ref t4, .ref t5])) = H9 at all9 sL eLL ⊢
    have hLL : H9 LL = some (.lst (rows ++ [.ref t1, .ref t2, .ref t3, .ref t4, .ref t5])) := eLL
    clear eLL
    refine for_list (xs := rows ++ [.ref t1, .ref t2, .ref t3, .ref t4, .ref t5]) (fun i σ H' => ∃ z4 z5 z6 z7 z8, σ = [some (.ref a), some (.int (0 + k)), some (.ref p), some (.ref D), z4, z5, z6, z7, z8] ∧ Same H9 H')
      ⟨_, _, _, _, _, rfl, Same.refl H9⟩ (fun i σ H' _ hp => hp.elim fun _ hp => .inl (.inl (by obtain ⟨_, _, _, _, _, e⟩ := hp; exact e _ _ hLL))) (fun i x σ H10 hx hp => ?_) (fun σ H' hp => ?_)
    · obtain ⟨z4, z5, z6, z7, z8, rfl, s10⟩ := hp
      obtain ⟨r, ms, rfl, hT, um, lm, bm⟩ := (all9 x (List.mem_of_getElem? hx)).same s10
      -- told = next_marks(row)
      refine ⟨.ref r, rfl, r, ms, rfl, hT, um, by omega, fun H11 t s11 ht => ?_⟩
      have hT11 := sameT s11 hT
      have b200 : ∀ n ∈ M07.round ms, n < 10 ^ 70 := fun n hn => Nat.lt_trans (round_le bm n hn) big200
      have l200 : (M07.round ms).length ≤ 100000 := by rw [M07.round_length]; omega
      dsimp only [tSeq, tIfS, tTest, tOp]
      refine cb1_var (.ref t) rfl (rep_ints (ns := M07.round ms) (.inl (.inl ht)) b200 l200 ?_)
      refine cb1_any (fun v H' => ∃ u, v = .ref u ∧ SqT K H' u (vN (M07.round ms)) ∧ Same H11 H') (fun v H13 hS => ?_) (fun R hR => ?_)
      · obtain ⟨u, rfl, hu, s13⟩ := hS
        refine rep_ints (ns := M07.round ms) hu b200 l200 ⟨rfl, _, rfl, ?_⟩
        rw [decide_eq_true rfl]
        refine iteF ?_
        have ht13 : SqT K H13 t (vN (M07.round ms)) := sameT s13 (.inl (.inl ht))
        dsimp only [tNext]
        refine ⟨.ref t, rfl, ?_⟩
        dsimp only [tCons]
        refine anyE (fun v H' => ∃ u, v = .ref u ∧ SqT K H' u ((vN (M07.round ms)).drop 1) ∧ Same H13 H') (fun v H14 hS => ?_) (fun R hR => ?_)
        · obtain ⟨u2, rfl, hu2, s14⟩ := hS
          refine ⟨t, u2, _, _, rfl, .inr ⟨sameT s14 ht13, hu2, fun D3 nD3 => ?_⟩⟩
          refine lc_zipT (xs := vN (M07.round ms)) (ys := (vN (M07.round ms)).drop 1) (fun i H' => ∃ bs : List Bool, bs.length = i ∧ (∀ b ∈ bs, b = true) ∧ H' D3 = some (.lst (bs.map V.bl)) ∧ Same H14 H') ⟨[], rfl, (fun b hb => nomatch hb), upd_same, sameN nD3⟩
            (fun i H' hp => ?_) (fun i x y T H' hx hy hp nT => ?_) (fun i H' hp _ => ?_)
          · obtain ⟨bs, _, _, _, s15⟩ := hp
            exact ⟨sameT (s14.trans s15) ht13, sameT s15 hu2⟩
          · obtain ⟨bs, e1, e2, e3, s15⟩ := hp
            have nT3 : D3 ≠ T := ne_of_none e3 nT
            refine ⟨T, [x, y], rfl, .inl (.inl upd_same), rfl, x, [y], rfl, y, [], rfl, rfl, rfl, ?_⟩
            rw [List.getElem?_drop] at hy
            obtain ⟨n1, g1, rfl⟩ : ∃ n : Nat, (M07.round ms)[i]? = some n ∧ x = .int n := by
              rw [List.getElem?_map] at hx
              obtain ⟨n, hn, rfl⟩ := Option.map_eq_some_iff.mp hx
              exact ⟨n, hn, rfl⟩
            obtain ⟨n2, g2, rfl⟩ : ∃ n : Nat, (M07.round ms)[i + 1]? = some n ∧ y = .int n := by
              rw [List.getElem?_map, Nat.add_comm] at hy
              obtain ⟨n, hn, rfl⟩ := Option.map_eq_some_iff.mp hy
              exact ⟨n, hn, rfl⟩
            have hne := M07.Unl.get (M07.round_unl ms um) g1 g2
            refine ⟨_, rfl, _, rfl, rfl, bs.map V.bl, by rw [upd_ne nT3]; exact e3, ?_, bs ++ [true], by rw [List.length_append, e1]; rfl, fun b hb => ?_, ?_, sameW (s15.trans (sameN nT)) nD3⟩
            · rw [List.length_map, e1]
              have := (List.getElem?_eq_some_iff.mp g1).1
              exact line5 (by omega)
            · rcases List.mem_append.mp hb with hb | hb
              · exact e2 b hb
              · simpa using hb
            · rw [upd_same, decide_eq_false (fun e => hne (by have := V.int.inj e; omega)), List.map_append]
              rfl
          · obtain ⟨bs, e1, e2, e3, s15⟩ := hp
            have eall : bs.all id = true := by
              rw [List.all_eq_true]
              intro b hb
              rw [e2 b hb]
              rfl
            refine ⟨D3, bs, rfl, .inl (.inl e3), _, rfl, ?_⟩
            rw [eall]
            exact ⟨_, _, _, _, _, rfl, s10.trans (s11.trans (s13.trans (s14.trans s15)))⟩
        · refine ⟨.ref t, rfl, 1, rfl, t, vN (M07.round ms), rfl, ht13, fun hw => hR _ _ ⟨t, rfl, ?_, Same.refl _⟩, fun hw u nu => hR _ _ ⟨u, rfl, .inl (.inl ?_), sameN nu⟩⟩
          · have h1 : HT.sIx (vN (M07.round ms)).length 0 (some ((1 : Nat) : Int)) = 0 := hw.1
            rw [HT.sIx_nat] at h1
            have : (vN (M07.round ms)).length = 0 := by omega
            rw [List.eq_nil_of_length_eq_zero this] at ht13 ⊢
            exact ht13
          · rw [upd_same]
            refine congrArg (fun z => some (HO.tup z)) ?_
            show cutV (vN (M07.round ms)) (some ((1 : Nat) : Int)) none = _
            unfold cutV
            rw [HT.sIx_nat, HT.sIx_none]
            by_cases z : (vN (M07.round ms)).length = 0
            · rw [List.eq_nil_of_length_eq_zero z]
              rfl
            · rw [show min 1 (vN (M07.round ms)).length = 1 by omega]
              exact List.take_of_length_le (by rw [List.length_drop]; exact Nat.le_refl _)
      · refine if_any (fun b H' => (b = false ↔ ms = []) ∧ Same H11 H') (fun b H12 hS => ?_) (fun R' hR' => ?_)
        · obtain ⟨eb, s12⟩ := hS
          cases b with
          | true =>
            have nn : ms ≠ [] := fun z => by
              have := eb.mpr z
              cases this
            refine ⟨.ref r, rfl, r, ms, rfl, .inr (sameT s12 hT11), um, nn, by omega, fun H13 fl s13 hf => ⟨fl, _, rfl, .inl ⟨.inl (.inl hf), fun u nu => hR _ _ ⟨u, rfl, .inl (.inl upd_same), s12.trans (s13.trans (sameN nu))⟩⟩⟩⟩
          | false =>
            have z : ms = [] := eb.mp rfl
            subst z
            exact ⟨(show 0 ≤ sizeLine from by decide), fun u nu => hR _ _ ⟨u, rfl, .inl (.inl upd_same), s12.trans (sameN nu)⟩⟩
        · refine ⟨.ref r, rfl, (show 0 ≤ sizeLine from by decide), fun e ne => ⟨_, _, .tup (sameT (sameN ne) hT11) (vN_data ms), .tup (.inl (.inl upd_same)) .nil, (shaped_ints _).2, (shaped_ints []).2, _, rfl, hR' _ _ ⟨?_, sameN ne⟩⟩⟩
          rw [eqv_emptyT]
          cases ms <;> simp
    · obtain ⟨z4, z5, z6, z7, z8, rfl, s10⟩ := hp
      exact ⟨_, _, _, _, _, _, _, _, rfl, sL.trans s10⟩
end
end C07

set_option Elab.async false
set_option linter.all false
set_option maxRecDepth 100000
namespace C07
open PySem PySem.Spec PyProof.Rows L2 Loc RZ
/-! ### what the top has written; the law's own head -/
theorem all_mk {l : PySem.W.OpenLaw} {w : World} {K : PySem.W.Frag} {h : Heap} {mg : Str → Option Value} {fa : Addr} (X : K.In h) (G : h.Ns mainGlobals mg) (hfa : mg "law" = some (.ref fa))
    {f0 : Addr} {od0 an0 : Option Addr} {sl0 : Array (Option Value)} {oc0 kV0 dc0 pm0 cd0 ct0 : Value}
    (a0 : PySem.W.nsIn K mainGlobals "_law_pot" = some (some (.ref f0)))
    (l0 : K.lookup f0 = some ⟨oc0, od0, .func (PySem.W.fnOf "_law_pot" "_law_pot" (defArgs sPot) (defBody sPot) (defScope sPot) .none kV0 dc0 pm0 an0 cd0 ct0), sl0⟩)
    (c0 : PySem.W.codeIn K cd0 "_law_pot" = true) (k0 : PySem.W.keepIn K (.ref f0) = true)
    {f1 : Addr} {od1 an1 : Option Addr} {sl1 : Array (Option Value)} {oc1 kV1 dc1 pm1 cd1 ct1 : Value}
    (a1 : PySem.W.nsIn K mainGlobals "_law_take" = some (some (.ref f1)))
    (l1 : K.lookup f1 = some ⟨oc1, od1, .func (PySem.W.fnOf "_law_take" "_law_take" (defArgs sTake) (defBody sTake) (defScope sTake) .none kV1 dc1 pm1 an1 cd1 ct1), sl1⟩)
    (c1 : PySem.W.codeIn K cd1 "_law_take" = true) (k1 : PySem.W.keepIn K (.ref f1) = true)
    {f2 : Addr} {od2 an2 : Option Addr} {sl2 : Array (Option Value)} {oc2 kV2 dc2 pm2 cd2 ct2 : Value}
    (a2 : PySem.W.nsIn K mainGlobals "_law_of" = some (some (.ref f2)))
    (l2 : K.lookup f2 = some ⟨oc2, od2, .func (PySem.W.fnOf "_law_of" "_law_of" (defArgs sOf) (defBody sOf) (defScope sOf) .none kV2 dc2 pm2 an2 cd2 ct2), sl2⟩)
    (c2 : PySem.W.codeIn K cd2 "_law_of" = true) (k2 : PySem.W.keepIn K (.ref f2) = true)
    {f3 : Addr} {od3 an3 : Option Addr} {sl3 : Array (Option Value)} {oc3 kV3 dc3 pm3 cd3 ct3 : Value}
    (a3 : PySem.W.nsIn K mainGlobals "_law_integers" = some (some (.ref f3)))
    (l3 : K.lookup f3 = some ⟨oc3, od3, .func (PySem.W.fnOf "_law_integers" "_law_integers" (defArgs sInts) (defBody sInts) (defScope sInts) .none kV3 dc3 pm3 an3 cd3 ct3), sl3⟩)
    (c3 : PySem.W.codeIn K cd3 "_law_integers" = true) (k3 : PySem.W.keepIn K (.ref f3) = true)
    {f4 : Addr} {od4 an4 : Option Addr} {sl4 : Array (Option Value)} {oc4 kV4 dc4 pm4 cd4 ct4 : Value}
    (a4 : PySem.W.nsIn K mainGlobals "_law_round" = some (some (.ref f4)))
    (l4 : K.lookup f4 = some ⟨oc4, od4, .func (PySem.W.fnOf "_law_round" "_law_round" (defArgs sRound) (defBody sRound) (defScope sRound) .none kV4 dc4 pm4 an4 cd4 ct4), sl4⟩)
    (c4 : PySem.W.codeIn K cd4 "_law_round" = true) (k4 : PySem.W.keepIn K (.ref f4) = true)
    {f5 : Addr} {od5 an5 : Option Addr} {sl5 : Array (Option Value)} {oc5 kV5 dc5 pm5 cd5 ct5 : Value}
    (a5 : PySem.W.nsIn K mainGlobals "_next_mark" = some (some (.ref f5)))
    (l5 : K.lookup f5 = some ⟨oc5, od5, .func (PySem.W.fnOf "_next_mark" "_next_mark" (defArgs sNm) (defBody sNm) (defScope sNm) .none kV5 dc5 pm5 an5 cd5 ct5), sl5⟩)
    (c5 : PySem.W.codeIn K cd5 "_next_mark" = true) (k5 : PySem.W.keepIn K (.ref f5) = true)
    {f6 : Addr} {od6 an6 : Option Addr} {sl6 : Array (Option Value)} {oc6 kV6 dc6 pm6 cd6 ct6 : Value}
    (a6 : PySem.W.nsIn K mainGlobals "next_marks" = some (some (.ref f6)))
    (l6 : K.lookup f6 = some ⟨oc6, od6, .func (PySem.W.fnOf "next_marks" "next_marks" (defArgs sNext) (defBody sNext) (defScope sNext) .none kV6 dc6 pm6 an6 cd6 ct6), sl6⟩)
    (c6 : PySem.W.codeIn K cd6 "next_marks" = true) (k6 : PySem.W.keepIn K (.ref f6) = true)
    {f7 : Addr} {od7 an7 : Option Addr} {sl7 : Array (Option Value)} {oc7 kV7 dc7 pm7 cd7 ct7 : Value}
    (a7 : PySem.W.nsIn K mainGlobals "law" = some (some (.ref f7)))
    (l7 : K.lookup f7 = some ⟨oc7, od7, .func (PySem.W.fnOf "law" "law" (defArgs sLaw) (defBody sLaw) (defScope sLaw) .none kV7 dc7 pm7 an7 cd7 ct7), sl7⟩)
    (c7 : PySem.W.codeIn K cd7 "law" = true) (k7 : PySem.W.keepIn K (.ref f7) = true)
    (z0 : PySem.W.nsIn K mainGlobals "len" = some none)
    (z1 : PySem.W.nsIn K mainGlobals "abs" = some none)
    (z2 : PySem.W.nsIn K mainGlobals "int" = some none)
    (z3 : PySem.W.nsIn K mainGlobals "range" = some none)
    (z4 : PySem.W.nsIn K mainGlobals "tuple" = some none)
    (z5 : PySem.W.nsIn K mainGlobals "max" = some none)
    (z6 : PySem.W.nsIn K mainGlobals "min" = some none)
    (z7 : PySem.W.nsIn K mainGlobals "repr" = some none)
    (z8 : PySem.W.nsIn K mainGlobals "all" = some none)
    (z9 : PySem.W.nsIn K mainGlobals "zip" = some none)
    : ∃ fd : FuncData, (∀ (s : Shared) (v : Value), BindsTo s fd ⟨[v], []⟩ [("script", v)]) ∧ ∀ base : Heap, K.In base → base.Ns mainGlobals mg → FnG l.prog w K mg base CX0 4 fa fd ["script"] (spLaw K) := by
  have e := hfa.symm.trans (PySem.W.mg_of X G a7)
  cases e
  have F0 := fun_mk (st := sPot) l0 c0 k0
  have b0 := F0.binds (ps := ["script", "k"]) fun _ _ _ _ _ _ us hl => match us, hl with | [_, _], _ => rfl
  have F1 := fun_mk (st := sTake) l1 c1 k1
  have b1 := F1.binds (ps := ["pot", "bound"]) fun _ _ _ _ _ _ us hl => match us, hl with | [_, _], _ => rfl
  have F2 := fun_mk (st := sOf) l2 c2 k2
  have b2 := F2.binds (ps := ["pot", "some"]) fun _ _ _ _ _ _ us hl => match us, hl with | [_, _], _ => rfl
  have F3 := fun_mk (st := sInts) l3 c3 k3
  have b3 := F3.binds (ps := ["pot"]) fun _ _ _ _ _ _ us hl => match us, hl with | [_], _ => rfl
  have F4 := fun_mk (st := sRound) l4 c4 k4
  have b4 := F4.binds (ps := ["some"]) fun _ _ _ _ _ _ us hl => match us, hl with | [_], _ => rfl
  have F5 := fun_mk (st := sNm) l5 c5 k5
  have b5 := F5.binds (ps := ["some", "place"]) fun _ _ _ _ _ _ us hl => match us, hl with | [_, _], _ => rfl
  have F6 := fun_mk (st := sNext) l6 c6 k6
  have b6 := F6.binds (ps := ["some"]) fun _ _ _ _ _ _ us hl => match us, hl with | [_], _ => rfl
  have F7 := fun_mk (st := sLaw) l7 c7 k7
  have Y : Facts K mg f0 f1 f2 f3 f4 f5 f6 _ _ _ _ _ _ _ :=
    { P := F0, gP := PySem.W.mg_of X G a0, bP := b0, T := F1, gT := PySem.W.mg_of X G a1, bT := b1, O := F2, gO := PySem.W.mg_of X G a2, bO := b2, I := F3, gI := PySem.W.mg_of X G a3, bI := b3, R := F4, gR := PySem.W.mg_of X G a4, bR := b4, M := F5, gM := PySem.W.mg_of X G a5, bM := b5, N := F6, gN := PySem.W.mg_of X G a6, bN := b6, len := PySem.W.mg_none_of X G z0, abs := PySem.W.mg_none_of X G z1, int := PySem.W.mg_none_of X G z2, range := PySem.W.mg_none_of X G z3, tuple := PySem.W.mg_none_of X G z4, max := PySem.W.mg_none_of X G z5, min := PySem.W.mg_none_of X G z6, repr := PySem.W.mg_none_of X G z7, all := PySem.W.mg_none_of X G z8, zip := PySem.W.mg_none_of X G z9 }
  exact ⟨_, fun s v => .of_eq rfl, fun base _ _ => ok_law F7 Y⟩
end C07
open PySem PySem.W PyProof.Rows
set_option maxHeartbeats 0 in
theorem PySem.Challenge.cw_localblocks_k07_other_rounds_holds : PySem.Challenge.rw_localblocks_k07_other_rounds.Holds := by
  w_on; o_law; k_head; (case hw => w_witness2)
  k_fill
  refine Loc.walkG (l := PySem.Challenge.rw_localblocks_k07_other_rounds) (n := 63) (k := 4) (x := "script") (sp := fun K => C07.spLaw K) rfl (by decide) rfl ⟨rfl, by decide, by decide⟩ (fun w h Y => PySem.W.kIn_of Y) ?F (fun K _ a ns hl hS => ⟨a, ns, rfl, hS, hl, fun _ => rfl⟩)
  case F =>
    intro w mg fa h KX G hmg
    refine' C07.all_mk KX G hmg ?a0 ?l0 ?c0 ?k0 ?a1 ?l1 ?c1 ?k1 ?a2 ?l2 ?c2 ?k2 ?a3 ?l3 ?c3 ?k3 ?a4 ?l4 ?c4 ?k4 ?a5 ?l5 ?c5 ?k5 ?a6 ?l6 ?c6 ?k6 ?a7 ?l7 ?c7 ?k7 ?z0 ?z1 ?z2 ?z3 ?z4 ?z5 ?z6 ?z7 ?z8 ?z9
    (case a0 => k_is)
    (case l0 => k_is)
    (case c0 => k_is)
    (case k0 => k_is)
    (case a1 => k_is)
    (case l1 => k_is)
    (case c1 => k_is)
    (case k1 => k_is)
    (case a2 => k_is)
    (case l2 => k_is)
    (case c2 => k_is)
    (case k2 => k_is)
    (case a3 => k_is)
    (case l3 => k_is)
    (case c3 => k_is)
    (case k3 => k_is)
    (case a4 => k_is)
    (case l4 => k_is)
    (case c4 => k_is)
    (case k4 => k_is)
    (case a5 => k_is)
    (case l5 => k_is)
    (case c5 => k_is)
    (case k5 => k_is)
    (case a6 => k_is)
    (case l6 => k_is)
    (case c6 => k_is)
    (case k6 => k_is)
    (case a7 => k_is)
    (case l7 => k_is)
    (case c7 => k_is)
    (case k7 => k_is)
    (case z0 => k_is)
    (case z1 => k_is)
    (case z2 => k_is)
    (case z3 => k_is)
    (case z4 => k_is)
    (case z5 => k_is)
    (case z6 => k_is)
    (case z7 => k_is)
    (case z8 => k_is)
    (case z9 => k_is)


