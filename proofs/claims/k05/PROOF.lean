import PyProof.Rows.All
import Wide.All
import OpenK.AllK
import Wide.FinOn
import HandS.ForMost
import HandS.Base
import HandS.Call
import HandS.List
import HandS.Comp
import HandS.Ends
import HandS.Words
import PyProof.ReprRoads
import PyProof.ReprLen
import PyProof.ReprText
import HandS.Wide
import HandS.WideBits
import HandS.Style
import HandS.Zip
import HandS.Flow
import PyProof.Rows.RuleB_pow
import PyProof.FitsInt
import PyProof.Rows.StrJoinMade
import HandS.IsInst
import HandS.TupAny
import PySem.Challenge.RW_localblocks_k05_runs_made
set_option Elab.async false
set_option linter.all false
set_option maxRecDepth 100000
namespace Loc
open PySem PySem.Spec PyProof.Rows L2
/-! ### defs that are entered while no repr is under way -/
/-- as FnOk, for such an entry alone -/
structure FnG (P : Program) (w : World) (K : PySem.W.Frag) (mg : Str → Option Value) (base : Heap) (CX : CXT)
    (k : Nat) (f : Addr) (fd : FuncData) (ps : List Str) (sp : Sp) : Prop where
  cnt : ∀ {vs H Q E}, sp vs H Q E → vs.length = ps.length
  go : ∀ {A : Around} {out : List Env} {s : Shared} {H : Hp} {ar : Args} {us : List Value} {vs : List V} {Q : VK} {E : XK},
    A.guards = some [] → Room k A → Env0 P w K mg base A out s H → BindsTo s fd ar (ps.zip us) → Vals vs us → sp vs H Q E →
    codeAny (model P w) A (.call (.ref f) ar) (CR CX out P w H s Q E) s
section
variable {P : Program} {w : World} {K : PySem.W.Frag} {mg : Str → Option Value} {base : Heap} {CX : CXT} {k : Nat} {f : Addr} {fd : FuncData} {ps : List Str} {sp : Sp}
theorem FnG.of (F : FnOk P w K mg base CX k f fd ps sp) : FnG P w K mg base CX k f fd ps sp :=
  ⟨fun h => F.len _ _ _ _ h, fun _ hr he hb hv hs => F.run _ _ _ _ _ _ _ _ _ hr he hb hv hs⟩
theorem FnG.up {j : Nat} (F : FnG P w K mg base CX j f fd ps sp) (h : j ≤ k) : FnG P w K mg base CX k f fd ps sp :=
  ⟨F.cnt, fun g hr he hb hv hs => F.go g (hr.mono h) he hb hv hs⟩
/-- a def by its body, entered while no repr is under way -/
theorem fun_okG {x qual : Str} {st : Stmt} {N : List Str} (F : Fun K x qual st f fd) (S : FnScope N ps (defScope st)) (len : ∀ vs H Q E, sp vs H Q E → vs.length = ps.length)
    (hb : ∀ (cdv : Value) (A : Around) (out : List Env) (s : Shared) (H : Hp) (vs : List V) (Q : VK) (E : XK), A.guards = some [] →
      Room k (A.deeper (envOfC qual (defScope st) s.heap.objs.size f cdv)) → sp vs H Q E →
      ∃ t, PSs (cxOf CX P w K mg base N qual (defScope st) f cdv A out s H E).nox (defBody st) t ∧ t { nx := fun _ H' => Q .non H', rt := Q } (start N vs) H) :
    FnG P w K mg base CX (k + 1) f fd ps sp := by
  refine ⟨fun h => len _ _ _ _ h, fun {A out s H ar us vs Q E} hg hr e0 hbd r hsp => ?_⟩
  obtain ⟨oc, od, kV, doc, pm, an, cdv, ct, osl, rfl, lk, hcd⟩ := F.ex
  obtain ⟨t, ht, hq⟩ := hb cdv A out s H vs Q E hg (hr.deeper _) hsp
  have KX : K.In s.heap := e0.mod.kin.keeps fun b o e => (e0.bs b o e).1
  have lim : s.heap.NoLimit := e0.mod.nolimit.keeps fun b o e => (e0.bs b o e).1
  have kinds : ∀ y ∈ ps.zip us, (defScope st).names.lookup y.1 = some .local ∨ ((defScope st).names.lookup y.1 = some .cell ∧
      ((cellsFrom (s.heap.objs.size + 1) (defScope st).names []).lookup y.1).isSome = true) := by
    rintro ⟨n, v⟩ hy
    exact (S.par n (List.of_mem_zip hy).1).elim .inl fun q => .inr ⟨q, PySem.W.cellsFrom_some _ _ _ (.inl q)⟩
  refine codeAny_call_function hr.depth (KX _ _ lk) rfl S.co S.gen rfl (PySem.W.codeRec_of KX hcd) (hbd _ _ _ _ ?_)
  refine wpAny_newFunctionEnv_cells S.kind kinds fun env he s1 x => ?_
  subst he
  refine ⟨lim.keeps x.toInCall.keep, codeAny_func ?_⟩
  have I := inv_start (CX := CX) (E := E) (P := P) (w := w) S hr.hd e0 (len _ _ _ _ hsp) r x
  refine wpAny_mono (ht.nox.run [] s1 (start N vs) H _ I hq) (fun fl s' hs => ?_) fun _ _ hs => hs
  cases fl with
  | ret u => exact let ⟨v, σ', H', J, rv, q⟩ := hs; ⟨v, H', J.os, J.bare, J.base, J.hok, rv, q⟩
  | next => exact let ⟨σ', H', J, q⟩ := hs; ⟨V.non, H', J.os, J.bare, J.base, J.hok, rfl, q⟩
  | brk => exact let ⟨_, _, _, q⟩ := hs; q.elim
  | cont => exact let ⟨_, _, _, q⟩ := hs; q.elim
end
/-! ### repr of nested data -/
/-- repr(v), v nested data (no dict) that a heap bears -/
def rRep (K : PySem.W.Frag) : List V → Hp → VK → Prop := fun xs H Q => ∃ a d, xs = [.ref a] ∧ Dp K H (.ref a) d ∧
  d.showable = true ∧ d.hasDict = false ∧ d.depth ≤ 62 ∧ d.shown.length ≤ sizeLine ∧ Q (.str d.shown) H
theorem call_rep {X : Cx} {k : Nat} (hr : Room k X.A) (hg : X.A.guards = some []) : CallR X (.builtin "repr") (rRep X.K) := by
  intro pins s σ H xs us Q I r h
  obtain ⟨a, d, rfl, hd, h1, h2, h3, h4, q⟩ := h
  obtain ⟨u, rfl, ru⟩ := vals1 r
  cases ru
  obtain ⟨as, rd⟩ := Dp.reads I d _ _ hd rfl
  have hu := hr.units
  exact repr_of_reads' rd h1 (PyData.noDict_hsm h2) hg (by omega) (fun _ _ e => e) (fun h' u tk hk => ⟨.str d.shown, H, I.kept hk, ⟨u, rfl⟩, q⟩) h4
/-! ### nested data that a heap bears -/
theorem DpAll.ints {K : PySem.W.Frag} {H : Hp} : ∀ ns : List Int, DpAll K H (ns.map V.int) (ns.map PyData.int)
  | [] => .nil
  | n :: r => .cons (.int n) (DpAll.ints r)
mutual
theorem Dp.same {K : PySem.W.Frag} {H H' : Hp} (e : ∀ a, (∀ xs, SqL K H a xs → SqL K H' a xs) ∧ ∀ xs, SqT K H a xs → SqT K H' a xs) : ∀ {v : V} {d : PyData}, Dp K H v d → Dp K H' v d
  | _, _, .non => .non
  | _, _, .bl b => .bl b
  | _, _, .int i => .int i
  | _, _, .str x => .str x
  | _, _, .lst h t => .lst ((e _).1 _ h) (DpAll.same e t)
  | _, _, .tup h t => .tup ((e _).2 _ h) (DpAll.same e t)
theorem DpAll.same {K : PySem.W.Frag} {H H' : Hp} (e : ∀ a, (∀ xs, SqL K H a xs → SqL K H' a xs) ∧ ∀ xs, SqT K H a xs → SqT K H' a xs) : ∀ {vs : List V} {ds : List PyData}, DpAll K H vs ds → DpAll K H' vs ds
  | _, _, .nil => .nil
  | _, _, .cons h t => .cons (Dp.same e h) (DpAll.same e t)
end
end Loc

set_option Elab.async false
set_option linter.all false
set_option maxRecDepth 100000
namespace Loc
open PySem PySem.Spec PyProof.Rows L2
/-- the law's call, its def entered while no repr is under way -/
theorem callG {P : Program} {w : World} {K : PySem.W.Frag} {mg mb : Str → Option Value} {k : Nat} {fa a : Addr} {fd : FuncData} {x : Str} {sp : Sp} {s : Shared} {vs : List Value} {ns : List Int}
    (KX : K.In s.heap) (g1 : s.heap.Ns mainGlobals mg) (g2 : s.heap.Ns builtinsNs mb) (g3 : ∀ x : Str, x ≠ "__name__" → mb x = bootBuiltins x) (lim : s.heap.NoLimit) (gs : s.gens = #[])
    (ha : s.heap.get? a = some { cls := .type "list", data := .seq vs.toArray }) (hi : IntsAre vs ns) (hl : ns.length ≤ sizeLine) (hr : Room k callerA)
    (F : ∀ base : Heap, K.In base → base.Ns mainGlobals mg → FnG P w K mg base CX0 k fa fd [x] sp) (hb : ∀ (s : Shared) (u : Value), BindsTo s fd ⟨[u], []⟩ [(x, u)])
    (hsp : ∀ H : Hp, SqL K H a (ns.map V.int) → sp [.ref a] H (fun v _ => v = .bl true) fun _ _ _ => False) :
    codeAny (model P w) callerA (.call (.ref fa) ⟨[.ref a], []⟩) (fun r s' => r = .ok (.ret (.bool true)) ∧ OldK s.heap s'.heap ∧ s'.os = s.os ∧ AllBare s'.gens) s := by
  have rv := vals_ints hi
  have ln := hi.length
  -- H tracks at most the script, and that only where the module has not written it
  have main : ∀ H : Hp, (∀ b, H b = none ∨ (b = a ∧ K.lookup a = none ∧ ∃ o xs, H b = some (.frz o (.lst xs)))) → SqL K H a (ns.map V.int) → HOk P w H s.heap →
      codeAny (model P w) callerA (.call (.ref fa) ⟨[.ref a], []⟩) (fun r s' => r = .ok (.ret (.bool true)) ∧ OldK s.heap s'.heap ∧ s'.os = s.os ∧ AllBare s'.gens) s := by
    intro H only sq hok
    have nsOf : ∀ {b : Addr} {m : Str → Option Value}, s.heap.Ns b m → (hidT s.heap H).Ns b m := by
      rintro b m ⟨o, es, ep, e, d, r⟩
      refine ⟨o, es, ep, hidT_get e ?_, d, r⟩
      rcases only b with z | ⟨rfl, _, _⟩
      · exact z
      · rw [ha] at e
        cases e
        exact Data.noConfusion d
    have kb : K.In (hidT s.heap H) := fun b o e => hidT_get (KX b o e) (by
      rcases only b with z | ⟨rfl, z, _⟩
      · exact z
      · rw [z] at e
        cases e)
    obtain ⟨mc, l1, l2⟩ := lim
    have e0 : Env0 P w K mg (hidT s.heap H) callerA [] s H :=
      { frames := rfl, mod := ⟨kb, nsOf g1, ⟨mb, nsOf g2, g3⟩, ⟨mc, nsOf l1, l2⟩⟩, bs := fun _ _ e => of_hidT e, bsz := Nat.le_of_eq (hidT_size _ _), funs := trivial,
        frf := fun b hb => absurd (show b ∈ ([] : List Addr) from hb) List.not_mem_nil, hok := hok, bare := .of_eq gs }
    refine codeAny_mono ((F _ kb (nsOf g1)).go (us := [.ref a]) (vs := [.ref a]) rfl hr e0 (hb s (.ref a)) (.cons rfl .nil) (hsp H sq)) fun r s' h => ?_
    match r, h with
    | .error e, h => exact h.elim
    | .ok .next, h => exact h.elim
    | .ok .brk, h => exact h.elim
    | .ok .cont, h => exact h.elim
    | .ok (.ret u), ⟨v, H', os, bare, un, hok', rel, q⟩ =>
      have q' : v = .bl true := q
      subst q'
      have ru : u = Value.bool true := rel
      subst ru
      refine ⟨rfl, OldK.of_keep fun b o e => ?_, os, bare⟩
      rcases only b with z | ⟨_, _, ob, xs, z⟩
      · exact un.keep b o e z (fun m => absurd (show b ∈ ([] : List Addr) from m) List.not_mem_nil) List.not_mem_nil
      · have o1 := (hok b _ z).1
        have o2 := (hok' b _ (un.frzs b ob _ z)).1
        rw [e] at o1
        cases o1
        exact o2
  cases hk : K.lookup a with
  | some o =>
    have e := KX a o hk
    rw [ha] at e
    cases e
    refine main (fun _ => none) (fun _ => .inl rfl) (.inr ⟨_, vs.toArray, _, hk, rfl, rfl, rfl, ?_, by simpa using rv⟩) fun b u z => nomatch (show (none : Option HO) = some u from z)
    rw [List.size_toArray, ln]
    exact hl
  | none =>
    refine main (fun b => if b = a then some (.frz { cls := .type "list", data := .seq vs.toArray } (.lst (ns.map V.int))) else none) (fun b => ?_) (.inl (.inr ⟨_, if_pos rfl⟩)) fun b u z => ?_
    · by_cases e : b = a
      · exact .inr ⟨e, hk, _, _, if_pos e⟩
      · exact .inl (if_neg e)
    · by_cases e : b = a
      · have z' := (if_pos e).symm.trans z
        cases z'
        rw [e]
        exact ⟨ha, by rw [List.length_map]; exact hl, vs, _, rv, ha⟩
      · have z' := (if_neg e).symm.trans z
        cases z'
/-- the goal that k_head leaves, from such a promise of the law's def -/
theorem walkG {l : PySem.W.OpenLaw} {n k : Nat} {q : Program} {loose : List Str} {XP : (Str → Option Value) → Heap → Prop} {YP : World → Heap → Prop} {d : DefRec} {K : Params → PySem.W.Frag} {sp : PySem.W.Frag → Sp} {x : Str}
    (hn : l.most = some n) (hz : n ≤ sizeLine) (hd : d.params.defaults = []) (hr : Room k callerA) (hY : ∀ (w : World) (h : Heap), YP w h → (K w.params).In h)
    (F : ∀ (w : World) (mg : Str → Option Value) (fa : Addr) (h : Heap), (K w.params).In h → h.Ns mainGlobals mg → mg d.name = some (.ref fa) →
      ∃ fd : FuncData, (∀ (s : Shared) (u : Value), BindsTo s fd ⟨[u], []⟩ [(x, u)]) ∧
        ∀ base : Heap, (K w.params).In base → base.Ns mainGlobals mg → FnG l.prog w (K w.params) mg base CX0 k fa fd [x] (sp (K w.params)))
    (hsp : ∀ (K : PySem.W.Frag) (H : Hp) (a : Addr) (ns : List Int), ns.length ≤ n → SqL K H a (ns.map V.int) → sp K [.ref a] H (fun v _ => v = .bl true) fun _ _ _ => False) :
    PySem.W.WalkO q loose XP YP l.row.toRowW d [] (fun f vs => PySem.call f vs) := by
  refine Att.attach_call hn hd fun w s0 s1 mg mb fa o pm cd doc a vs ns G Y ho hd' hcd hmg hobj hints hlen hg => ?_
  obtain ⟨fd, hb, hF⟩ := F w mg fa _ (hY w _ Y) G.T.g hmg
  exact callG (hY w _ Y) G.T.g G.T.b G.T.builtins G.T.nolimit hg hobj hints (Nat.le_trans hlen hz) hr hF hb fun H hS => hsp _ H a ns hlen hS
end Loc

set_option Elab.async false
set_option linter.all false
set_option maxRecDepth 100000
/-! ### the heap but for one object -/
namespace Loc
open PySem PySem.Spec PyProof.Rows L2
/-- all but what stands at p is as it was -/
def But (p : Addr) (H H' : Hp) : Prop := ∀ b o, b ≠ p → H b = some o → H' b = some o
theorem But.refl (p : Addr) (H : Hp) : But p H H := fun _ _ _ h => h
theorem But.trans {p : Addr} {H H1 H2 : Hp} (a : But p H H1) (b : But p H1 H2) : But p H H2 := fun c o n h => b c o n (a c o n h)
theorem But.set {p : Addr} {H : Hp} {o : HO} : But p H (upd H p o) := fun b _ n h => by rw [upd_ne n]; exact h
theorem But.new {p q : Addr} {H : Hp} {o : HO} (h : H q = none) : But p H (upd H q o) := fun b _ _ e => by rw [upd_ne (ne_of_none e h)]; exact e
theorem But.at {p b : Addr} {H H' : Hp} {o : HO} (e : But p H H') (n : b ≠ p) (h : H b = some o) : H' b = some o := e b o n h
theorem But.sql {p a : Addr} {K : PySem.W.Frag} {H H' : Hp} {xs : List V} (e : But p H H') (n : a ≠ p) (h : SqL K H a xs) : SqL K H' a xs := by
  rcases h with (h | ⟨o, h⟩) | h
  · exact .inl (.inl (e _ _ n h))
  · exact .inl (.inr ⟨o, e _ _ n h⟩)
  · exact .inr h
/-- a tuple is no list -/
theorem But.sqt {p a : Addr} {K : PySem.W.Frag} {H H' : Hp} {xs ys : List V} (e : But p H H') (hp : H p = some (.lst ys)) (h : SqT K H a xs) : SqT K H' a xs := by
  rcases h with (h | ⟨o, h⟩) | h
  · exact .inl (.inl (e _ _ (ne_of h hp (by intro z; cases z)) h))
  · exact .inl (.inr ⟨o, e _ _ (ne_of h hp (by intro z; cases z)) h⟩)
  · exact .inr h
/-! ### the pot that the law draws from -/
/-- a pot's three numbers, drawn from at most c times -/
def PotO (o : HO) (c : Nat) : Prop := ∃ own mix cnt : Int, o = .lst [.int own, .int mix, .int cnt] ∧ 0 ≤ own ∧ own < 2 ^ 1000 ∧ 0 ≤ mix ∧ mix < 2305843009213693952 ∧ 0 ≤ cnt ∧ cnt ≤ c
def Pot (H : Hp) (p : Addr) (c : Nat) : Prop := ∃ o, H p = some o ∧ PotO o c
theorem PotO.le {o : HO} {c d : Nat} (h : PotO o c) (l : c ≤ d) : PotO o d := by
  obtain ⟨a, b, e, h1, h2, h3, h4, h5, h6, h7⟩ := h
  exact ⟨a, b, e, h1, h2, h3, h4, h5, h6, by omega⟩
theorem Pot.le {H : Hp} {p : Addr} {c d : Nat} (h : Pot H p c) (l : c ≤ d) : Pot H p d := let ⟨o, e, q⟩ := h; ⟨o, e, q.le l⟩
theorem Pot.ls {H : Hp} {p : Addr} {c : Nat} (h : Pot H p c) : ∃ ys, H p = some (.lst ys) := by
  obtain ⟨o, e, a, b, z, rfl, _⟩ := h
  exact ⟨_, e⟩
theorem Pot.new {H : Hp} {p q : Addr} {c : Nat} {o : HO} (h : Pot H p c) (n : H q = none) : Pot (upd H q o) p c := by
  obtain ⟨x, e, r⟩ := h
  exact ⟨x, by rw [upd_ne (ne_of_none e n)]; exact e, r⟩
theorem Pot.oth {H : Hp} {p q : Addr} {c : Nat} {o : HO} (h : Pot H p c) (n : p ≠ q) : Pot (upd H q o) p c := by
  obtain ⟨x, e, r⟩ := h
  exact ⟨x, by rw [upd_ne n]; exact e, r⟩
theorem Pot.put {H : Hp} {p : Addr} {c : Nat} {o : HO} (h : PotO o c) : Pot (upd H p o) p c := ⟨o, upd_same, h⟩

/-- script: the script; k: a small number -/
def spPot (K : PySem.W.Frag) : Sp := fun vs H Q _ => ∃ (a : Addr) (ns : List Int) (k : Nat), vs = [.ref a, .int k] ∧ SqL K H a (ns.map V.int) ∧ ns.length ≤ 1000 ∧ k ≤ 1000 ∧
  ∀ p o, H p = none → PotO o 0 → Q (.ref p) (upd H p o)
def spTake : Sp := fun vs H Q _ => ∃ (p : Addr) (b : Int) (c : Nat), vs = [.ref p, .int b] ∧ Pot H p c ∧ c < 1000000 ∧ 0 < b ∧ b < 2 ^ 1000 ∧
  ∀ (d : Int) H', 0 ≤ d → d < b → But p H H' → Pot H' p (c + 1) → Q (.int d) H'
def spOf : Sp := fun vs H Q _ => ∃ (p a : Addr) (xs : List V) (c : Nat), vs = [.ref p, .ref a] ∧ Pot H p c ∧ c < 1000000 ∧ a ≠ p ∧ H a = some (.lst xs) ∧ xs ≠ [] ∧ xs.length ≤ 1000 ∧
  ∀ (j : Nat) (x : V) H', xs[j]? = some x → But p H H' → Pot H' p (c + 1) → Q x H'

/-- ** of a great number -/
def CPowW (i j : Int) : Prop := 0 ≤ j ∧ (Builtin.Int.intBits i : Int) * j ≤ 2 ^ 27
theorem op_powW {X : Cx} : OpR X (binaryOp .Pow) (rI CPowW fun i j => .int (i ^ j.toNat)) := opI fun _ _ _ _ _ _ _ hc q => pow_int hc.1 hc.2 q
theorem pow60 : CPowW ((10 : Int) ^ (60 : Int).toNat) 5 := ⟨by decide, by decide +kernel⟩
theorem small_line {n : Nat} (h : n ≤ 100000) : n ≤ sizeLine := Nat.le_trans h (by decide)
theorem small_line' {n : Nat} (h : n ≤ 100000) : n < sizeLine := Nat.lt_of_le_of_lt h (by decide)
end Loc
namespace Loc
open PySem PySem.Spec PyProof.Rows L2
/-- two ways that meet in what S says of the value -/
theorem joinIf {b : Bool} {ta tb : TE} {σ : L2.St} {H : Hp} {Q : VK} (S : VK) (key : ∀ v H', S v H' → Q v H') (h1 : b = true → ∀ R : VK, (∀ v H', S v H' → R v H') → ta σ H R)
    (h2 : b = false → ∀ R : VK, (∀ v H', S v H' → R v H') → tb σ H R) : if b = true then ta σ H Q else tb σ H Q := by
  cases b
  · rw [if_neg Bool.false_ne_true]
    exact h2 rfl Q key
  · rw [if_pos rfl]
    exact h1 rfl Q key
theorem mod_pos {a m : Int} (h : 0 < m) : 0 ≤ a % m ∧ a % m < m := ⟨Int.emod_nonneg _ (by omega), Int.emod_lt_of_pos _ h⟩
theorem pow300 : ((10 : Int) ^ (60 : Int).toNat) ^ (5 : Int).toNat < 2 ^ 1000 := by decide +kernel
theorem pow300' : 0 < ((10 : Int) ^ (60 : Int).toNat) ^ (5 : Int).toNat := by decide +kernel
end Loc
namespace Loc
theorem bit_small (b : Bool) : -(2 ^ 64) < (if b = true then (1 : Int) else 0) ∧ (if b = true then (1 : Int) else 0) < 2 ^ 64 := by
  cases b <;> decide
theorem mul_bit {a m : Int} (h : 0 ≤ a ∧ a < m) (b : Bool) : 0 ≤ a * (if b = true then (1 : Int) else 0) ∧ a * (if b = true then (1 : Int) else 0) < m := by
  cases b
  · rw [if_neg Bool.false_ne_true, Int.mul_zero]
    omega
  · rw [if_pos rfl, Int.mul_one]
    exact h
end Loc
namespace Loc
theorem natAbs_lt {b : Int} {n : Nat} (h0 : 0 ≤ b) (h : b < 2 ^ n) : b.natAbs < 2 ^ n := by
  obtain ⟨m, rfl⟩ := Int.eq_ofNat_of_zero_le h0
  rw [← PySem.W.kbt_cast n] at h
  exact Int.ofNat_lt.mp h
theorem div_small {a b : Int} (h0 : 0 ≤ a) (h : 0 < b) : 0 ≤ a / b ∧ a / b ≤ a := ⟨Int.ediv_nonneg h0 (by omega), Int.ediv_le_self b h0⟩
/-- the five numbers that a draw is reckoned with -/
theorem prime_at {n : Int} (h : 0 ≤ n) : ∃ q : Int, L2.atI [L2.V.int 2147483647, .int 2147483629, .int 2147483587, .int 2147483579, .int 2147483563] (n % 5) = some (.int q) ∧ 0 < q ∧ q < 2147483648 := by
  have m := Int.emod_nonneg n (show (5 : Int) ≠ 0 by decide)
  have l := Int.emod_lt_of_pos n (show (0 : Int) < 5 by decide)
  generalize n % 5 = r at m l
  have c : r = 0 ∨ r = 1 ∨ r = 2 ∨ r = 3 ∨ r = 4 := by omega
  rcases c with rfl | rfl | rfl | rfl | rfl
  · exact ⟨2147483647, rfl, by decide, by decide⟩
  · exact ⟨2147483629, rfl, by decide, by decide⟩
  · exact ⟨2147483587, rfl, by decide, by decide⟩
  · exact ⟨2147483579, rfl, by decide, by decide⟩
  · exact ⟨2147483563, rfl, by decide, by decide⟩
/-- what stands under the third power -/
theorem base_small {mix c : Int} (h3 : 0 ≤ mix) (h4 : mix < 2305843009213693952) (h5 : 0 ≤ c) (h6 : c ≤ 1000000) : 0 ≤ mix + 99991 * c * c + 29 ∧ mix + 99991 * c * c + 29 < 2 ^ 64 := by
  have k1 : 0 ≤ c * c := Int.mul_nonneg h5 h5
  have k2 : c * c ≤ 1000000 * 1000000 := Int.mul_le_mul h6 h6 h5 (by decide)
  rw [Int.mul_assoc]
  omega
end Loc
namespace Loc
theorem small_pow {n : Nat} (h : n ≤ 1000) : (n : Int) < 2 ^ 1000 := Int.lt_of_le_of_lt (show (n : Int) ≤ 1000 by omega) (by decide +kernel)
end Loc
namespace Loc
open PySem PySem.Spec PyProof.Rows L2
theorem sameT {K : PySem.W.Frag} {H H' : Hp} {a : Addr} {xs : List V} (e : Same H H') (h : SqT K H a xs) : SqT K H' a xs := by
  rcases h with (h | ⟨o, h⟩) | h
  · exact .inl (.inl (e _ _ h))
  · exact .inl (.inr ⟨o, e _ _ h⟩)
  · exact .inr h
theorem sameN {H : Hp} {p : Addr} {o : HO} (h : H p = none) : Same H (upd H p o) := fun b x e => by rw [upd_ne (ne_of_none e h)]; exact e
/-- a new object is written again -/
theorem sameW {H H' : Hp} {p : Addr} {o : HO} (e : Same H H') (h : H p = none) : Same H (upd H' p o) := fun b x q => by rw [upd_ne (ne_of_none q h)]; exact e b x q
theorem Same.but {H H' : Hp} {p : Addr} (e : Same H H') : But p H H' := fun b o _ h => e b o h
theorem But.same {H H' : Hp} {p : Addr} (e : But p H H') (h : H p = none) : Same H H' := fun b o q => e b o (ne_of_none q h) q
/-- a new object is written again -/
theorem But.wr {p q : Addr} {H H' : Hp} {o : HO} (e : But p H H') (h : H q = none) : But p H (upd H' q o) := fun b x n r => by rw [upd_ne (ne_of_none r h)]; exact e b x n r
theorem small_take {α : Type} {l : List α} {i n : Nat} (h : l.length ≤ n) : (l.take i).length ≤ n := by
  rw [List.length_take]
  omega
theorem line5 {n : Nat} (h : n ≤ 100000) : n < sizeLine := small_line' h
end Loc
namespace Loc
open PySem PySem.Spec PyProof.Rows L2
/-- a list or a tuple -/
def SqA (K : PySem.W.Frag) (H : Hp) (a : Addr) (xs : List V) : Prop := SqL K H a xs ∨ SqT K H a xs
theorem SqA.same {K : PySem.W.Frag} {H H' : Hp} {a : Addr} {xs : List V} (h : SqA K H a xs) (e : Same H H') : SqA K H' a xs := h.imp e.seq (sameT e)
theorem SqA.ix {K : PySem.W.Frag} {H : Hp} {a : Addr} {xs : List V} {i : Int} {v : V} {Q : VK} (h : SqA K H a xs) (e : atI xs i = some v) (q : Q v H) : rIx K (.ref a) (.int i) H Q := by
  rcases h with h | h
  · exact .inl ⟨a, xs, i, v, rfl, rfl, h, e, q⟩
  · exact .inr (.inl ⟨a, xs, i, v, rfl, rfl, h, e, q⟩)
theorem half_pow (x t : Nat) : ((x / 2 ^ t : Nat) : Int) / 2 = ((x / 2 ^ (t + 1) : Nat) : Int) := by
  rw [Nat.pow_succ, ← Nat.div_div_eq_div_mul]
  omega
end Loc
namespace Loc
theorem get_of {α : Type} {l : List α} {i : Nat} (h : i < l.length) : ∃ x, l[i]? = some x := ⟨l[i], List.getElem?_eq_getElem h⟩
end Loc
namespace Loc
theorem take_more {α : Type} {l : List α} {i : Nat} {x : α} (h : l[i]? = some x) : l.take (i + 1) = l.take i ++ [x] := by
  rw [List.take_add_one, h]
  rfl
theorem int_congr {a b : Int} (h : a = b) : L2.V.int a = L2.V.int b := by rw [h]
end Loc
namespace Loc
open PySem PySem.Spec PyProof.Rows L2
/-- a value that is one of those that S tells -/
theorem anyE {te : TE} {σ : L2.St} {H : Hp} {Q : VK} (S : VK) (key : ∀ v H', S v H' → Q v H') (h : ∀ R : VK, (∀ v H', S v H' → R v H') → te σ H R) : te σ H Q := h Q key
theorem anyT {t : TT} {σ : L2.St} {H : Hp} {Q : Bool → Hp → Prop} (S : Bool → Hp → Prop) (key : ∀ b H', S b H' → Q b H') (h : ∀ R : Bool → Hp → Prop, (∀ b H', S b H' → R b H') → t σ H R) : t σ H Q := h Q key
theorem joinS {b : Bool} {t u : TS} {D : Ends} {σ : L2.St} {H : Hp} (S : L2.St → Hp → Prop) (key : ∀ σ' H', S σ' H' → D.nx σ' H')
    (h1 : b = true → ∀ N : L2.St → Hp → Prop, (∀ σ' H', S σ' H' → N σ' H') → t { D with nx := N } σ H)
    (h2 : b = false → ∀ N : L2.St → Hp → Prop, (∀ σ' H', S σ' H' → N σ' H') → u { D with nx := N } σ H) : if b = true then t D σ H else u D σ H := by
  cases b
  · rw [if_neg Bool.false_ne_true]
    exact h2 rfl D.nx key
  · rw [if_pos rfl]
    exact h1 rfl D.nx key
theorem But.free {p q : Addr} {H H' : Hp} {o : HO} (e : But p H H') (hp : H' p = some o) (h : H' q = none) : H q = none := by
  cases z : H q with
  | none => rfl
  | some x =>
    have n : q ≠ p := fun k => by rw [k, hp] at h; cases h
    rw [e q x n z] at h
    cases h
theorem Pot.ex {H : Hp} {p : Addr} {c : Nat} (h : Pot H p c) : ∃ o, H p = some o := let ⟨o, e, _⟩ := h; ⟨o, e⟩
theorem But.freeP {p q : Addr} {H H' : Hp} {c : Nat} (e : But p H H') (hp : Pot H' p c) (h : H' q = none) : H q = none := let ⟨_, k⟩ := hp.ex; e.free k h
theorem Pot.ne {H : Hp} {p q : Addr} {c : Nat} (hp : Pot H p c) (h : H q = none) : q ≠ p := fun z => by
  obtain ⟨o, e⟩ := hp.ex
  rw [z, e] at h
  cases h
/-! lists of ints as data -/
theorem canLay_ints : ∀ ns : List Int, PyData.canLayAll0 (ns.map PyData.int) = true
  | [] => rfl
  | n :: r => by
    show (PyData.canLay0 (.int n) && PyData.canLayAll0 (r.map PyData.int)) = true
    rw [canLay_ints r]
    rfl
theorem depth_ints : ∀ ns : List Int, PyData.depthAll (ns.map PyData.int) ≤ 1
  | [] => by simp [PyData.depthAll]
  | n :: r => by
    have := depth_ints r
    simp only [List.map_cons, PyData.depthAll, PyData.depth]
    omega
theorem shaped_ints (ns : List Int) : SeqAt.shaped (.list (ns.map PyData.int)) = true ∧ SeqAt.shaped (.tuple (ns.map PyData.int)) = true := by
  have d := depth_ints ns
  constructor
  · unfold SeqAt.shaped
    rw [Bool.and_eq_true]
    exact ⟨by simpa [PyData.canLay0] using canLay_ints ns, decide_eq_true (by simp only [PyData.depth]; omega)⟩
  · unfold SeqAt.shaped
    rw [Bool.and_eq_true]
    exact ⟨by simpa [PyData.canLay0] using canLay_ints ns, decide_eq_true (by simp only [PyData.depth]; omega)⟩
/-- xs == [], xs of ints -/
theorem eqv_empty (ns : List Int) : PyData.eqv (.list (ns.map PyData.int)) (.list []) = ns.isEmpty := by
  cases ns <;> simp [PyData.eqv, PyData.eqvAll]
theorem eqv_emptyT (ns : List Int) : PyData.eqv (.tuple (ns.map PyData.int)) (.tuple []) = ns.isEmpty := by
  cases ns <;> simp [PyData.eqv, PyData.eqvAll]
end Loc
namespace Loc
theorem pow_of {d : Int} {n : Nat} (h0 : 0 ≤ d) (h : d ≤ n) : ∃ m : Nat, (1 : Int) * 2 ^ d.toNat = (m : Int) ∧ 0 < m ∧ m ≤ 2 ^ n := by
  refine ⟨2 ^ d.toNat, ?_, Nat.two_pow_pos _, Nat.pow_le_pow_right (by decide) (by omega)⟩
  rw [Int.one_mul, PySem.W.kbt_cast]
end Loc
namespace Loc
open PySem PySem.Spec PyProof.Rows L2
theorem cb1_any {r : List V → Hp → VK → Prop} {te : TE} {σ : L2.St} {H : Hp} {Q : VK} (S : VK) (key : ∀ v H', S v H' → r [v] H' Q) (h : ∀ R : VK, (∀ v H', S v H' → R v H') → te σ H R) : tCB r (tCons te tNil) σ H Q := h _ key
theorem cons_any {te : TE} {tr : TA} {σ : L2.St} {H : Hp} {Q : List V → Hp → Prop} (S : VK) (key : ∀ v H', S v H' → tr σ H' fun vs H2 => Q (v :: vs) H2) (h : ∀ R : VK, (∀ v H', S v H' → R v H') → te σ H R) : tCons te tr σ H Q := h _ key
theorem if_any {T : TT} {ta tb : TE} {σ : L2.St} {H : Hp} {Q : VK} (S : Bool → Hp → Prop) (key : ∀ b H', S b H' → if b = true then ta σ H' Q else tb σ H' Q) (h : ∀ R : Bool → Hp → Prop, (∀ b H', S b H' → R b H') → T σ H R) : tIf T ta tb σ H Q := h _ key
theorem ifs_any {T : TT} {t u : TS} {D : Ends} {σ : L2.St} {H : Hp} (S : Bool → Hp → Prop) (key : ∀ b H', S b H' → if b = true then t D σ H' else u D σ H') (h : ∀ R : Bool → Hp → Prop, (∀ b H', S b H' → R b H') → T σ H R) : tIfS T t u D σ H := h _ key
end Loc
namespace Loc
open PySem PySem.Spec PyProof.Rows L2
theorem cb1_var {r : List V → Hp → VK → Prop} {i : Nat} {σ : L2.St} {H : Hp} {Q : VK} (v : V) (h : σ[i]? = some (some v)) (k : r [v] H Q) : tCB r (tCons (tVar i) tNil) σ H Q := ⟨v, h, k⟩
end Loc

set_option Elab.async false
set_option linter.all false
set_option maxRecDepth 100000
namespace Loc
open PySem PySem.Spec PyProof.Rows L2 RZ
/-! ### repr of a tuple of ints -/
theorem shown_len {n : Nat} (h : n < 10 ^ 70) : (PyData.shown (.int (n : Int))).length ≤ 70 := by
  rw [PyData.shown_int]
  refine toString_length_le (Int.natCast_nonneg _) (by decide) ?_
  have := Int.ofNat_lt.mpr h
  exact Int.lt_of_lt_of_le this (by decide +kernel)
theorem shown_sum : ∀ ns : List Nat, (∀ n ∈ ns, n < 10 ^ 70) → ((PyData.shownAll ((ns.map fun n : Nat => (n : Int)).map PyData.int)).map (·.length)).sum ≤ 70 * ns.length
  | [], _ => by simp [PyData.shownAll]
  | n :: r, h => by
    have h1 := shown_len (h n List.mem_cons_self)
    have h2 := shown_sum r fun m hm => h m (List.mem_cons_of_mem _ hm)
    simp only [List.map_cons, PyData.shownAll, List.sum_cons, List.length_cons]
    omega
theorem log_small {n : Nat} (h : n < 10 ^ 70) : ((n : Int)).natAbs.log2 < 1920 := by
  rw [Int.natAbs_natCast]
  by_cases z : n = 0
  · subst z
    decide
  · exact (Nat.log2_lt z).mpr (Nat.lt_trans h (by decide +kernel))
theorem noDict_ints : ∀ ns : List Int, PyData.hasDictAll (ns.map PyData.int) = false
  | [] => by simp [PyData.hasDictAll]
  | n :: r => by simp [PyData.hasDictAll, PyData.hasDict, noDict_ints r]
/-- what repr asks of a tuple of small numbers -/
theorem rep_ints {K : PySem.W.Frag} {H : Hp} {a : Addr} {ns : List Nat} {Q : VK} (hS : SqT K H a (ns.map fun n : Nat => V.int (n : Int))) (h : ∀ n ∈ ns, n < 10 ^ 70) (hl : ns.length ≤ 100000)
    (q : Q (.str (PyData.shown (.tuple ((ns.map fun n : Nat => (n : Int)).map PyData.int)))) H) : rRep K [.ref a] H Q := by
  have dp := depth_ints (ns.map fun n : Nat => (n : Int))
  have sm := shown_sum ns h
  have e : (ns.map fun n : Nat => V.int (n : Int)) = (ns.map fun n : Nat => (n : Int)).map V.int := by
    rw [List.map_map]
    rfl
  rw [e] at hS
  refine ⟨a, _, rfl, .tup hS (DpAll.ints _), ?_, ?_, ?_, ?_, q⟩
  · show PyData.showableAll _ = true
    refine PyData.showableAll_ints _ fun n hn => ?_
    obtain ⟨m, hm, rfl⟩ := List.mem_map.mp hn
    exact log_small (h m hm)
  · show PyData.hasDictAll _ = false
    exact noDict_ints _
  · simp only [PyData.depth]
    omega
  · show (tupleText _).length ≤ sizeLine
    have t := tupleText_len_le (PyData.shownAll ((ns.map fun n : Nat => (n : Int)).map PyData.int))
    rw [PyData.shownAll_length, List.length_map, List.length_map] at t
    rw [sizeLine_eq]
    omega
/-! ### [.. for x, y in zip(t, u)], t and u tuples -/
theorem lc_zipT {K : PySem.W.Frag} {a b : Addr} {xs ys : List V} {g : TG} {tt : TT} {te : TE} {vs : List Nat} {σ : L2.St} {H1 : Hp} {D : Addr} {Qd : Hp → Prop} (Pv : Nat → Hp → Prop)
    (h0 : Pv 0 (upd H1 D (.lst []))) (hl : ∀ i H, Pv i H → SqT K H a xs ∧ SqT K H b ys)
    (hs : ∀ i x y T H, xs[i]? = some x → ys[i]? = some y → Pv i H → H T = none → g (.ref T) (wipe σ vs) (upd H T (.tup [x, y])) fun σ2 H2 => wipe σ2 vs = wipe σ vs ∧ tt σ2 H2 fun k H3 =>
      if k = true then te σ2 H3 fun z H4 => ∃ acc, H4 D = some (.lst acc) ∧ acc.length < sizeLine ∧ Pv (i + 1) (upd H4 D (.lst (acc ++ [z]))) else Pv (i + 1) H3)
    (hd : ∀ i H, Pv i H → (xs.length ≤ i ∨ ys.length ≤ i) → Qd H) :
    ∃ W : Nat → Nat → Hp → Prop, (∃ m, W 0 m (upd H1 D (.lst []))) ∧ ∀ i m H, W i m H →
      ((ItzT K a b).stop i H ∧ Qd H) ∨ ((ItzT K a b).go i H ∧ ∃ Nx : Hp → Prop, (∀ H', Nx H' → ∃ m', m' < m ∧ W (i + 1) m' H') ∧ ∀ x H', (ItzT K a b).yld i H x H' → g x (wipe σ vs) H' fun σ2 H2 => wipe σ2 vs = wipe σ vs ∧ tt σ2 H2 fun k H3 =>
        if k = true then te σ2 H3 fun y H4 => ∃ acc, H4 D = some (.lst acc) ∧ acc.length < sizeLine ∧ Nx (upd H4 D (.lst (acc ++ [y]))) else Nx H3) := by
  refine ⟨fun i m H => m = xs.length - i ∧ Pv i H, ⟨_, rfl, h0⟩, ?_⟩
  rintro i m H ⟨rfl, p⟩
  obtain ⟨k1, k2⟩ := hl i H p
  by_cases c : i < xs.length ∧ i < ys.length
  · obtain ⟨x, gx⟩ := get_of c.1
    obtain ⟨y, gy⟩ := get_of c.2
    refine .inr ⟨⟨xs, ys, x, y, k1, k2, gx, gy⟩, Pv (i + 1), fun H' p' => ⟨xs.length - (i + 1), by omega, rfl, p'⟩, fun z H' hy => ?_⟩
    obtain ⟨T, x', y', rfl, hT, rfl, f1, f2⟩ := hy
    have ex : x' = x := Option.some.inj ((f1 _ k1).symm.trans gx)
    have ey : y' = y := Option.some.inj ((f2 _ k2).symm.trans gy)
    subst ex
    subst ey
    exact hs i _ _ T H gx gy p hT
  · have c' : xs.length ≤ i ∨ ys.length ≤ i := by omega
    exact .inl ⟨⟨xs, ys, k1, k2, c'⟩, hd i H p c'⟩
end Loc

set_option Elab.async false
set_option linter.all false
set_option maxRecDepth 100000
namespace Loc
open PySem PySem.Spec PyProof.Rows L2
/-! ### nodes -/
inductive Nd where
  | el (n : Nat)
  | run (b : Nd) (c : Nat)
  | blk (ps : List Nd)
mutual
def dat : Nd → PyData
  | .el n => .int n
  | .run b c => .tuple [.str "run", dat b, .int c]
  | .blk ps => .tuple [.str "block", .tuple (datAll ps)]
def datAll : List Nd → List PyData
  | [] => []
  | n :: r => dat n :: datAll r
end
def Nd.isRun : Nd → Bool
  | .run _ _ => true
  | _ => false
def Nd.isBlk : Nd → Bool
  | .blk _ => true
  | _ => false
def Nd.base : Nd → Nd
  | .run b _ => b
  | n => n
/-- neighbours with unlike bases -/
def Unb : List Nd → Prop
  | a :: b :: r => a.base ≠ b.base ∧ Unb (b :: r)
  | _ => True
mutual
/-- a node of this level -/
def Ok : Nd → Nat → Prop
  | .el n, l => l = 0 ∧ n ≤ 10 ^ 9
  | .run b c, l => 2 ≤ c ∧ c ≤ 10 ^ 60 ∧ b.isRun = false ∧ Ok b l
  | .blk ps, l => 1 ≤ l ∧ 2 ≤ ps.length ∧ ps.length ≤ 3 ∧ OkAll ps (l - 1) ∧ Unb ps
def OkAll : List Nd → Nat → Prop
  | [], _ => True
  | n :: r, l => Ok n l ∧ OkAll r l
end
theorem OkAll.mem : ∀ {ps : List Nd} {l : Nat}, OkAll ps l → ∀ n ∈ ps, Ok n l
  | [], _, _, n, h => nomatch h
  | a :: r, l, h, n, hn => by
    unfold OkAll at h
    rcases List.mem_cons.mp hn with rfl | hn
    · exact h.1
    · exact OkAll.mem h.2 n hn
theorem OkAll.of : ∀ {ps : List Nd} {l : Nat}, (∀ n ∈ ps, Ok n l) → OkAll ps l
  | [], _, _ => by unfold OkAll; trivial
  | a :: r, l, h => by
    unfold OkAll
    exact ⟨h a List.mem_cons_self, OkAll.of fun n hn => h n (List.mem_cons_of_mem _ hn)⟩
theorem datAll_map : ∀ ps : List Nd, datAll ps = ps.map dat
  | [] => by unfold datAll; rfl
  | n :: r => by
    unfold datAll
    rw [datAll_map r]
    rfl
theorem datAll_length (ps : List Nd) : (datAll ps).length = ps.length := by rw [datAll_map, List.length_map]
theorem unlike_sorts : (Str.ofString "run" == Str.ofString "block") = false ∧ (Str.ofString "block" == Str.ofString "run") = false := by
  constructor <;> decide +kernel
theorem eqv_rb (x y z : PyData) : PyData.eqv (.tuple [.str "run", x, y]) (.tuple [.str "block", z]) = false := by
  simp only [PyData.eqv, PyData.eqvAll, unlike_sorts.1, Bool.false_and]
theorem eqv_br (x y z : PyData) : PyData.eqv (.tuple [.str "block", z]) (.tuple [.str "run", x, y]) = false := by
  simp only [PyData.eqv, PyData.eqvAll, unlike_sorts.2, Bool.false_and]
mutual
theorem eqv_dat : ∀ a b : Nd, PyData.eqv (dat a) (dat b) = true ↔ a = b
  | .el n, .el m => by
    simp only [dat, PyData.eqv, beq_iff_eq, Nd.el.injEq]
    omega
  | .el _, .run _ _ => by simp [dat, PyData.eqv]
  | .el _, .blk _ => by simp [dat, PyData.eqv]
  | .run _ _, .el _ => by simp [dat, PyData.eqv]
  | .blk _, .el _ => by simp [dat, PyData.eqv]
  | .run a c, .run b d => by
    have ih := eqv_dat a b
    simp only [dat, PyData.eqv, PyData.eqvAll, beq_self_eq_true, Bool.true_and, Bool.and_true, Bool.and_eq_true, beq_iff_eq, Nd.run.injEq, ih]
    constructor
    · rintro ⟨h1, h2⟩
      exact ⟨h1, by omega⟩
    · rintro ⟨h1, h2⟩
      exact ⟨h1, by omega⟩
  | .run _ _, .blk _ => by simp [dat, eqv_rb]
  | .blk _, .run _ _ => by simp [dat, eqv_br]
  | .blk ps, .blk qs => by
    have ih := eqv_datAll ps qs
    simp only [dat, PyData.eqv, PyData.eqvAll, beq_self_eq_true, Bool.true_and, Bool.and_true, Nd.blk.injEq, ih]
theorem eqv_datAll : ∀ ps qs : List Nd, PyData.eqvAll (datAll ps) (datAll qs) = true ↔ ps = qs
  | [], [] => by simp [datAll, PyData.eqvAll]
  | [], _ :: _ => by simp [datAll, PyData.eqvAll]
  | _ :: _, [] => by simp [datAll, PyData.eqvAll]
  | a :: r, b :: q => by
    have h1 := eqv_dat a b
    have h2 := eqv_datAll r q
    simp only [datAll, PyData.eqvAll, Bool.and_eq_true, h1, h2, List.cons.injEq]
end
theorem eqv_no {a b : Nd} (h : a ≠ b) : PyData.eqv (dat a) (dat b) = false := by
  cases e : PyData.eqv (dat a) (dat b) with
  | false => rfl
  | true => exact absurd ((eqv_dat a b).mp e) h
theorem eqv_yes {a b : Nd} (h : a = b) : PyData.eqv (dat a) (dat b) = true := (eqv_dat a b).mpr h
theorem str_run_ok : PyData.canLay0 (.str "run") = true ∧ PyData.canLay0 (.str "block") = true := by
  constructor <;> decide +kernel
mutual
theorem canLay_dat : ∀ a : Nd, PyData.canLay0 (dat a) = true
  | .el n => by simp [dat, PyData.canLay0]
  | .run b c => by
    have h := canLay_dat b
    simp only [dat, PyData.canLay0, PyData.canLayAll0, h, str_run_ok.1, Bool.and_true]
    exact str_run_ok.1
  | .blk ps => by
    have h := canLay_datAll ps
    simp only [dat, PyData.canLay0, PyData.canLayAll0, h, Bool.and_true]
    exact str_run_ok.2
theorem canLay_datAll : ∀ ps : List Nd, PyData.canLayAll0 (datAll ps) = true
  | [] => by simp [datAll, PyData.canLayAll0]
  | a :: r => by
    have h1 := canLay_dat a
    have h2 := canLay_datAll r
    simp only [datAll, PyData.canLayAll0, h1, h2, Bool.and_true]
end
mutual
theorem depth_dat : ∀ (a : Nd) (l : Nat), Ok a l → (dat a).depth ≤ 3 * l + (if a.isRun then 1 else 0)
  | .el n, l, h => by simp [dat, PyData.depth]
  | .run b c, l, h => by
    unfold Ok at h
    have ih := depth_dat b l h.2.2.2
    rw [h.2.2.1] at ih
    simp only [dat, PyData.depth, PyData.depthAll, Nd.isRun, if_true]
    simp at ih
    omega
  | .blk ps, l, h => by
    unfold Ok at h
    have ih := depth_datAll ps (l - 1) h.2.2.2.1
    simp only [dat, PyData.depth, PyData.depthAll, Nd.isRun]
    simp
    omega
theorem depth_datAll : ∀ (ps : List Nd) (l : Nat), OkAll ps l → PyData.depthAll (datAll ps) ≤ 3 * l + 1
  | [], l, _ => by simp [datAll, PyData.depthAll]
  | a :: r, l, h => by
    unfold OkAll at h
    have h1 := depth_dat a l h.1
    have h2 := depth_datAll r l h.2
    simp only [datAll, PyData.depthAll]
    split at h1 <;> omega
end
theorem depth_le {a : Nd} {l : Nat} (h : Ok a l) : (dat a).depth ≤ 3 * l + 1 := by
  have := depth_dat a l h
  split at this <;> omega
theorem shaped_dat {a : Nd} {l : Nat} (h : Ok a l) (hl : l ≤ 20) : SeqAt.shaped (dat a) = true := by
  have d := depth_le h
  unfold SeqAt.shaped
  rw [Bool.and_eq_true]
  exact ⟨canLay_dat a, decide_eq_true (by omega)⟩
theorem shaped_all {ps : List Nd} {l : Nat} (h : OkAll ps l) (hl : l ≤ 20) : SeqAt.shaped (.list (datAll ps)) = true ∧ SeqAt.shaped (.tuple (datAll ps)) = true := by
  have d := depth_datAll ps l h
  unfold SeqAt.shaped
  simp only [Bool.and_eq_true]
  exact ⟨⟨by simpa [PyData.canLay0] using canLay_datAll ps, decide_eq_true (by simp only [PyData.depth]; omega)⟩, by simpa [PyData.canLay0] using canLay_datAll ps, decide_eq_true (by simp only [PyData.depth]; omega)⟩
/-! ### nodes that a heap bears -/
abbrev NdV (K : PySem.W.Frag) (H : Hp) (v : V) (a : Nd) : Prop := Dp K H v (dat a)
abbrev NdsV (K : PySem.W.Frag) (H : Hp) (vs : List V) (ps : List Nd) : Prop := DpAll K H vs (datAll ps)
section
variable {K : PySem.W.Frag} {H H' : Hp}
theorem NdV.el {v : V} {n : Nat} (h : NdV K H v (.el n)) : v = .int n := by
  unfold NdV dat at h
  cases h
  rfl
theorem NdV.run {v : V} {b : Nd} {c : Nat} (h : NdV K H v (.run b c)) : ∃ a v2, v = .ref a ∧ SqT K H a [.str "run", v2, .int c] ∧ NdV K H v2 b := by
  unfold NdV dat at h
  cases h with
  | tup h1 h2 =>
    cases h2 with
    | cons k1 h2 =>
      cases h2 with
      | cons k2 h2 =>
        cases h2 with
        | cons k3 h2 =>
          cases h2
          cases k1
          cases k3
          exact ⟨_, _, rfl, h1, k2⟩
theorem NdV.blk {v : V} {ps : List Nd} (h : NdV K H v (.blk ps)) : ∃ a b vs, v = .ref a ∧ SqT K H a [.str "block", .ref b] ∧ SqT K H b vs ∧ NdsV K H vs ps := by
  unfold NdV dat at h
  cases h with
  | tup h1 h2 =>
    cases h2 with
    | cons k1 h2 =>
      cases h2 with
      | cons k2 h2 =>
        cases h2
        cases k1
        cases k2 with
        | tup k3 k4 => exact ⟨_, _, _, rfl, h1, k3, k4⟩
theorem NdV.ofEl (n : Nat) : NdV K H (.int n) (.el n) := by
  unfold NdV dat
  exact .int _
theorem NdV.ofRun {a : Addr} {v2 : V} {b : Nd} {c : Nat} (h : SqT K H a [.str "run", v2, .int c]) (k : NdV K H v2 b) : NdV K H (.ref a) (.run b c) := by
  unfold NdV dat
  exact .tup h (.cons (.str _) (.cons k (.cons (.int _) .nil)))
theorem NdV.ofBlk {a b : Addr} {vs : List V} {ps : List Nd} (h : SqT K H a [.str "block", .ref b]) (k : SqT K H b vs) (q : NdsV K H vs ps) : NdV K H (.ref a) (.blk ps) := by
  unfold NdV dat
  exact .tup h (.cons (.str _) (.cons (.tup k q) .nil))
theorem NdsV.nil : NdsV K H [] [] := by
  unfold NdsV datAll
  exact .nil
theorem NdsV.cons {v : V} {vs : List V} {a : Nd} {ps : List Nd} (h : NdV K H v a) (k : NdsV K H vs ps) : NdsV K H (v :: vs) (a :: ps) := by
  unfold NdsV datAll
  exact .cons h k
theorem NdsV.inv {vs : List V} {a : Nd} {ps : List Nd} (h : NdsV K H vs (a :: ps)) : ∃ v r, vs = v :: r ∧ NdV K H v a ∧ NdsV K H r ps := by
  unfold NdsV datAll at h
  cases h with
  | cons h1 h2 => exact ⟨_, _, rfl, h1, h2⟩
theorem NdsV.inv0 {vs : List V} (h : NdsV K H vs []) : vs = [] := by
  unfold NdsV datAll at h
  cases h
  rfl
theorem NdsV.len : ∀ {ps : List Nd} {vs : List V}, NdsV K H vs ps → vs.length = ps.length
  | [], vs, h => by rw [h.inv0]; rfl
  | a :: r, vs, h => by
    obtain ⟨v, q, rfl, _, k⟩ := h.inv
    rw [List.length_cons, List.length_cons, NdsV.len k]
theorem NdsV.get : ∀ {ps : List Nd} {vs : List V} {i : Nat} {v : V}, NdsV K H vs ps → vs[i]? = some v → ∃ a, ps[i]? = some a ∧ NdV K H v a
  | [], vs, i, v, h, e => by rw [h.inv0] at e; simp at e
  | a :: r, vs, i, v, h, e => by
    obtain ⟨u, q, rfl, k1, k⟩ := h.inv
    cases i with
    | zero =>
      simp at e
      subst e
      exact ⟨a, rfl, k1⟩
    | succ i =>
      obtain ⟨b, h1, h2⟩ := NdsV.get (i := i) k (by simpa using e)
      exact ⟨b, by simpa using h1, h2⟩
theorem NdsV.at {ps : List Nd} {vs : List V} {i : Nat} {a : Nd} (h : NdsV K H vs ps) (e : ps[i]? = some a) : ∃ v, vs[i]? = some v ∧ NdV K H v a := by
  have hi := (List.getElem?_eq_some_iff.mp e).1
  obtain ⟨v, hv⟩ := get_of (l := vs) (i := i) (by rw [h.len]; exact hi)
  obtain ⟨b, h1, h2⟩ := h.get hv
  rw [e] at h1
  cases h1
  exact ⟨v, hv, h2⟩
theorem NdsV.app : ∀ {ps qs : List Nd} {vs us : List V}, NdsV K H vs ps → NdsV K H us qs → NdsV K H (vs ++ us) (ps ++ qs)
  | [], qs, vs, us, h, k => by rw [h.inv0]; exact k
  | a :: r, qs, vs, us, h, k => by
    obtain ⟨v, q, rfl, k1, k2⟩ := h.inv
    exact NdsV.cons k1 (NdsV.app k2 k)
theorem NdsV.one {v : V} {a : Nd} (h : NdV K H v a) : NdsV K H [v] [a] := NdsV.cons h NdsV.nil
theorem NdsV.last {ps : List Nd} {vs : List V} {z : Nd} (h : NdsV K H vs (ps ++ [z])) : ∃ u, atI vs (-1) = some u ∧ NdV K H u z := by
  have hl := h.len
  rw [List.length_append] at hl
  simp at hl
  rcases List.eq_nil_or_concat vs with rfl | ⟨init, u, rfl⟩
  · simp at hl
  · rw [List.concat_eq_append] at *
    refine ⟨u, atI_last _ _, ?_⟩
    have hi : init.length = ps.length := by simpa using hl
    obtain ⟨a, h1, h2⟩ := h.get (i := init.length) (v := u) (by rw [List.getElem?_append_right (Nat.le_refl _)]; simp)
    rw [hi, List.getElem?_append_right (Nat.le_refl _)] at h1
    have : a = z := by simpa using h1.symm
    rw [← this]
    exact h2
/-- node data stand while tuples stand -/
def Tups (K : PySem.W.Frag) (H H' : Hp) : Prop := ∀ a xs, SqT K H a xs → SqT K H' a xs
theorem Tups.of (e : Same H H') : Tups K H H' := fun _ _ h => sameT e h
theorem Tups.trans {H2 : Hp} (e : Tups K H H') (k : Tups K H' H2) : Tups K H H2 := fun a xs h => k a xs (e a xs h)
theorem Tups.refl : Tups K H H := fun _ _ h => h
theorem But.tups {p : Addr} {ys : List V} (e : But p H H') (h : H p = some (.lst ys)) : Tups K H H' := fun _ _ k => e.sqt h k
theorem But.tupsP {p : Addr} {c : Nat} (e : But p H H') (h : Pot H p c) : Tups K H H' := let ⟨_, k⟩ := h.ls; e.tups k
mutual
theorem NdV.up (e : Tups K H H') : ∀ {a : Nd} {v : V}, NdV K H v a → NdV K H' v a
  | .el n, v, h => by rw [h.el]; exact .ofEl n
  | .run b c, v, h => by
    obtain ⟨a, v2, rfl, h1, h2⟩ := h.run
    exact .ofRun (e _ _ h1) (NdV.up e h2)
  | .blk ps, v, h => by
    obtain ⟨a, b, vs, rfl, h1, h2, h3⟩ := h.blk
    exact .ofBlk (e _ _ h1) (e _ _ h2) (NdsV.up e h3)
theorem NdsV.up (e : Tups K H H') : ∀ {ps : List Nd} {vs : List V}, NdsV K H vs ps → NdsV K H' vs ps
  | [], vs, h => by rw [h.inv0]; exact .nil
  | a :: r, vs, h => by
    obtain ⟨v, q, rfl, k1, k2⟩ := h.inv
    exact NdsV.cons (NdV.up e k1) (NdsV.up e k2)
end
theorem SqT.ty {a : Addr} {xs : List V} (h : SqT K H a xs) : TyX K H (.ref a) (.type "tuple") := by
  rcases h with (h | ⟨o, h⟩) | ⟨o, its, n, h1, h2, _⟩
  · exact .base (.tup h)
  · exact .fTuple h
  · exact .kTuple h1 h2
end
end Loc

set_option Elab.async false
set_option linter.all false
set_option maxRecDepth 100000
namespace Loc
open PySem PySem.Spec PyProof.Rows L2
def Smalls (B : Nat) (xs : List V) : Prop := ∀ x ∈ xs, ∃ n : Nat, x = .int n ∧ n ≤ B
theorem Smalls.nil {B : Nat} : Smalls B [] := fun x h => nomatch h
theorem Smalls.cons {B n : Nat} {x : V} {xs : List V} (e : x = .int n) (h : n ≤ B) (t : Smalls B xs) : Smalls B (x :: xs) := fun y hy => by
  rcases List.mem_cons.mp hy with rfl | hy
  · exact ⟨n, e, h⟩
  · exact t y hy
theorem Smalls.at {B : Nat} {xs : List V} {j : Nat} {x : V} (s : Smalls B xs) (h : xs[j]? = some x) : ∃ n : Nat, x = .int n ∧ n ≤ B := s x (List.mem_of_getElem? h)
/-! the two nodes of a level that are at hand -/
def tw : Nat → Nd × Nd
  | 0 => (.el 5, .el 6)
  | l + 1 => (.blk [(tw l).1, (tw l).2], .blk [(tw l).2, (tw l).1])
theorem tw_ok : ∀ l : Nat, Ok (tw l).1 l ∧ Ok (tw l).2 l ∧ (tw l).1 ≠ (tw l).2 ∧ (tw l).1.isRun = false ∧ (tw l).2.isRun = false
  | 0 => by
    refine ⟨?_, ?_, ?_, rfl, rfl⟩
    · unfold tw Ok; exact ⟨rfl, by decide⟩
    · unfold tw Ok; exact ⟨rfl, by decide⟩
    · unfold tw; intro h; injection h with h; exact absurd h (by decide)
  | l + 1 => by
    obtain ⟨h1, h2, h3, h4, h5⟩ := tw_ok l
    have b1 : (tw l).1.base = (tw l).1 := by
      cases e : (tw l).1 with
      | run b c => rw [e] at h4; cases h4
      | el n => rfl
      | blk ps => rfl
    have b2 : (tw l).2.base = (tw l).2 := by
      cases e : (tw l).2 with
      | run b c => rw [e] at h5; cases h5
      | el n => rfl
      | blk ps => rfl
    refine ⟨?_, ?_, ?_, rfl, rfl⟩
    · show Ok (.blk [(tw l).1, (tw l).2]) (l + 1)
      unfold Ok
      exact ⟨by omega, Nat.le_refl 2, (show 2 ≤ 3 from by decide), OkAll.of (fun n hn => by
        rcases List.mem_cons.mp hn with rfl | hn
        · exact h1
        · rw [List.mem_singleton.mp hn]; exact h2), ⟨by rw [b1, b2]; exact h3, trivial⟩⟩
    · show Ok (.blk [(tw l).2, (tw l).1]) (l + 1)
      unfold Ok
      exact ⟨by omega, Nat.le_refl 2, (show 2 ≤ 3 from by decide), OkAll.of (fun n hn => by
        rcases List.mem_cons.mp hn with rfl | hn
        · exact h2
        · rw [List.mem_singleton.mp hn]; exact h1), ⟨by rw [b1, b2]; exact h3.symm, trivial⟩⟩
    · show Nd.blk [(tw l).1, (tw l).2] ≠ Nd.blk [(tw l).2, (tw l).1]
      intro h
      injection h with h
      injection h with h
      exact h3 h
theorem base_of_no {n : Nd} (h : n.isRun = false) : n.base = n := by
  cases n with
  | run b c => cases h
  | el n => rfl
  | blk ps => rfl
theorem Ok.base {n : Nd} {l : Nat} (h : Ok n l) : Ok n.base l ∧ n.base.isRun = false := by
  cases n with
  | run b c =>
    unfold Ok at h
    exact ⟨h.2.2.2, h.2.2.1⟩
  | el n => exact ⟨h, rfl⟩
  | blk ps => exact ⟨h, rfl⟩
theorem unb_app : ∀ {ns : List Nd} {m : Nd}, Unb ns → (∀ x, ns.getLast? = some x → x.base ≠ m.base) → Unb (ns ++ [m])
  | [], _, _, _ => trivial
  | [a], m, _, h => ⟨h a rfl, trivial⟩
  | a :: b :: r, m, u, h => ⟨u.1, unb_app (ns := b :: r) u.2 fun x e => h x (by rw [List.getLast?_cons_cons]; exact e)⟩
/-- draws for one node of a level -/
def cost : Nat → Nat
  | 0 => 8
  | l + 1 => 4 * cost l
theorem cost_pos : ∀ l : Nat, 8 ≤ cost l
  | 0 => Nat.le_refl _
  | l + 1 => by
    have := cost_pos l
    unfold cost
    omega
theorem eqv_emptyN (ns : List Nd) : PyData.eqv (.list (datAll ns)) (.list []) = ns.isEmpty := by
  cases ns <;> simp [PyData.eqv, PyData.eqvAll, datAll]
theorem shaped_nil : SeqAt.shaped (.list []) = true := (shaped_ints []).1

def spGround (K : PySem.W.Frag) : Sp := fun vs H Q _ => ∃ v n, vs = [v] ∧ NdV K H v n ∧ ∀ v', NdV K H v' n.base → Q v' H
def spLeaf (K : PySem.W.Frag) : Sp := fun vs H Q _ => ∃ p c, vs = [.ref p] ∧ Pot H p c ∧ c < 900000 ∧ ∀ v n H', But p H H' → Pot H' p (c + 6) → NdV K H' v n → Ok n 0 → Q v H'
def spTwins (K : PySem.W.Frag) (m : Nat) : Sp := fun vs H Q _ => ∃ (z : Int) (l : Nat), vs = [.int z] ∧ z = l ∧ l < m ∧
  ∀ H' a v1 v2, Same H H' → H' a = some (.tup [v1, v2]) → NdV K H' v1 (tw l).1 → NdV K H' v2 (tw l).2 → Q (.ref a) H'
def spUnlike (K : PySem.W.Frag) (m : Nat) : Sp := fun vs H Q _ => ∃ (v : V) (n : Nd) (l : Nat), vs = [v, .int l] ∧ l < m ∧ l ≤ 20 ∧ NdV K H v n ∧ Ok n l ∧
  ∀ H' v' n', Same H H' → NdV K H' v' n' → Ok n' l → n'.base ≠ n.base → Q v' H'
def spRow (K : PySem.W.Frag) (m : Nat) : Sp := fun vs H Q _ => ∃ (p : Addr) (z : Int) (l many c : Nat), vs = [.ref p, .int z, .int many] ∧ z = l ∧ l < m ∧ l ≤ 20 ∧ many ≤ 10 ∧ Pot H p c ∧ c + 20 * cost l < 900000 ∧
  ∀ H' a vs' ns, But p H H' → H a = none → H' a = some (.lst vs') → NdsV K H' vs' ns → OkAll ns l → Unb ns → ns.length = many → Pot H' p (c + many * cost l) → Q (.ref a) H'
def spBlock (K : PySem.W.Frag) (m : Nat) : Sp := fun vs H Q _ => ∃ (p : Addr) (l c : Nat), vs = [.ref p, .int l] ∧ 1 ≤ l ∧ l < m ∧ l ≤ 20 ∧ Pot H p c ∧ c + 10 * cost l < 900000 ∧
  ∀ H' v n, But p H H' → NdV K H' v n → Ok n l → Pot H' p (c + cost l) → Q v H'
end Loc

set_option Elab.async false
set_option linter.all false
set_option maxRecDepth 100000
namespace Loc
open PySem PySem.Spec PyProof.Rows L2
/-! ### repr of nodes -/
mutual
theorem noDict_dat : ∀ a : Nd, PyData.hasDict (dat a) = false
  | .el n => by simp [dat, PyData.hasDict]
  | .run b c => by simp [dat, PyData.hasDict, PyData.hasDictAll, noDict_dat b]
  | .blk ps => by simp [dat, PyData.hasDict, PyData.hasDictAll, noDict_datAll ps]
theorem noDict_datAll : ∀ ps : List Nd, PyData.hasDictAll (datAll ps) = false
  | [] => by simp [datAll, PyData.hasDictAll]
  | a :: r => by simp [datAll, PyData.hasDictAll, noDict_dat a, noDict_datAll r]
end
theorem log60 {c : Nat} (h : c ≤ 10 ^ 60) : ((c : Int)).natAbs.log2 < 1920 := log_small (Nat.lt_of_le_of_lt h (by decide +kernel))
mutual
theorem showable_dat : ∀ (a : Nd) (l : Nat), Ok a l → PyData.showable (dat a) = true
  | .el n, l, h => by
    unfold Ok at h
    have := log60 (c := n) (Nat.le_trans h.2 (by decide +kernel))
    simpa [dat, PyData.showable] using this
  | .run b c, l, h => by
    unfold Ok at h
    have h1 := log60 h.2.1
    have h2 := showable_dat b l h.2.2.2
    simp only [dat, PyData.showable, PyData.showableAll, h2, Bool.true_and, Bool.and_true]
    exact decide_eq_true h1
  | .blk ps, l, h => by
    unfold Ok at h
    have h2 := showable_datAll ps (l - 1) h.2.2.2.1
    simp only [dat, PyData.showable, PyData.showableAll, h2, Bool.true_and, Bool.and_true]
theorem showable_datAll : ∀ (ps : List Nd) (l : Nat), OkAll ps l → PyData.showableAll (datAll ps) = true
  | [], l, _ => by simp [datAll, PyData.showableAll]
  | a :: r, l, h => by
    unfold OkAll at h
    simp [datAll, PyData.showableAll, showable_dat a l h.1, showable_datAll r l h.2]
end
theorem repr_sorts : (reprText "run").length = 5 ∧ (reprText "block").length = 7 := by
  constructor <;> decide +kernel
theorem shown_nat {c k : Nat} (hk : 0 < k) (h : c < 10 ^ k) : (PyData.shown (.int (c : Int))).length ≤ k := by
  rw [PyData.shown_int]
  refine toString_length_le (Int.natCast_nonneg _) hk ?_
  have := Int.ofNat_lt.mpr h
  have e : ((10 ^ k : Nat) : Int) = (10 : Int) ^ k := by simp
  rw [← e]
  exact this
/-- signs of a node of a level -/
def wide : Nat → Nat
  | 0 => 100
  | l + 1 => 3 * wide l + 110
mutual
theorem shown_dat : ∀ (a : Nd) (l : Nat), Ok a l → (PyData.shown (dat a)).length + (if a.isRun then 0 else 80) ≤ wide l
  | .el n, l, h => by
    unfold Ok at h
    obtain ⟨rfl, hn⟩ := h
    have := shown_nat (c := n) (k := 10) (by decide) (Nat.lt_of_le_of_lt hn (by decide))
    simp only [dat, Nd.isRun, wide]
    simp
    omega
  | .run b c, l, h => by
    unfold Ok at h
    have ih := shown_dat b l h.2.2.2
    rw [h.2.2.1] at ih
    have h1 := shown_nat (c := c) (k := 61) (by decide) (Nat.lt_of_le_of_lt h.2.1 (by decide +kernel))
    have t := tupleText_len_le [PyData.shown (.str "run"), PyData.shown (dat b), PyData.shown (.int c)]
    have e : (PyData.shown (.str "run")).length = 5 := by rw [PyData.shown_str]; exact repr_sorts.1
    simp only [List.map_cons, List.map_nil, List.sum_cons, List.sum_nil, List.length_cons, List.length_nil, e] at t
    simp only [dat, Nd.isRun, PyData.shown, PyData.shownAll, if_true, Bool.false_eq_true, if_false, Nat.add_zero] at ih t h1 ⊢
    omega
  | .blk ps, l, h => by
    unfold Ok at h
    obtain ⟨hl, h2, h3, h4, _⟩ := h
    obtain ⟨j, rfl⟩ : ∃ j, l = j + 1 := ⟨l - 1, by omega⟩
    have ih := shown_datAll ps j h4
    have t := tupleText_len_le (PyData.shownAll (datAll ps))
    rw [PyData.shownAll_length, datAll_length] at t
    have t2 := tupleText_len_le [PyData.shown (.str "block"), PyData.shown (.tuple (datAll ps))]
    have e : (PyData.shown (.str "block")).length = 7 := by rw [PyData.shown_str]; exact repr_sorts.2
    simp only [List.map_cons, List.map_nil, List.sum_cons, List.sum_nil, List.length_cons, List.length_nil, e] at t2
    have m : ps.length * wide j ≤ 3 * wide j := Nat.mul_le_mul_right _ h3
    simp only [dat, Nd.isRun, PyData.shown, PyData.shownAll, wide] at t t2 ⊢
    simp
    omega
theorem shown_datAll : ∀ (ps : List Nd) (l : Nat), OkAll ps l → ((PyData.shownAll (datAll ps)).map (·.length)).sum ≤ ps.length * wide l
  | [], l, _ => by simp [datAll, PyData.shownAll]
  | a :: r, l, h => by
    unfold OkAll at h
    have h1 := shown_dat a l h.1
    have h2 := shown_datAll r l h.2
    simp only [datAll, PyData.shownAll, List.map_cons, List.sum_cons, List.length_cons]
    rw [Nat.add_mul]
    omega
end
/-- what repr asks of a tuple of nodes -/
theorem rep_nodes {K : PySem.W.Frag} {H : Hp} {a : Addr} {us : List V} {ns : List Nd} {l : Nat} {Q : VK} (hS : SqT K H a us) (hn : NdsV K H us ns) (ok : OkAll ns l) (hl : l ≤ 20) (hz : ns.length * wide l + 2 * ns.length + 3 ≤ sizeLine)
    (q : Q (.str (PyData.shown (.tuple (datAll ns)))) H) : rRep K [.ref a] H Q := by
  have d := depth_datAll ns l ok
  refine ⟨a, .tuple (datAll ns), rfl, .tup hS hn, ?_, ?_, ?_, ?_, q⟩
  · show PyData.showableAll _ = true
    exact showable_datAll ns l ok
  · show PyData.hasDictAll _ = false
    exact noDict_datAll ns
  · simp only [PyData.depth]
    omega
  · show (tupleText _).length ≤ sizeLine
    have t := tupleText_len_le (PyData.shownAll (datAll ns))
    have s := shown_datAll ns l ok
    rw [PyData.shownAll_length, datAll_length] at t
    omega
/-! ### making runs -/
noncomputable section
open Classical
def stepG (acc : List (Nd × Nat)) (n : Nd) : List (Nd × Nat) :=
  match acc.getLast? with
  | some (m, c) => if m = n then acc.dropLast ++ [(n, c + 1)] else acc ++ [(n, 1)]
  | none => acc ++ [(n, 1)]
def grp (ns : List Nd) : List (Nd × Nat) := ns.foldl stepG []
theorem grp_app (ns : List Nd) (n : Nd) : grp (ns ++ [n]) = stepG (grp ns) n := by
  unfold grp
  rw [List.foldl_append]
  rfl
theorem stepG_last (acc : List (Nd × Nat)) (n : Nd) : ∃ i c, stepG acc n = i ++ [(n, c)] := by
  unfold stepG
  split
  · split
    · exact ⟨_, _, rfl⟩
    · exact ⟨_, _, rfl⟩
  · exact ⟨_, _, rfl⟩
theorem stepG_eq {i : List (Nd × Nat)} {n : Nd} {c : Nat} : stepG (i ++ [(n, c)]) n = i ++ [(n, c + 1)] := by
  unfold stepG
  rw [List.getLast?_append]
  simp
theorem stepG_ne {acc : List (Nd × Nat)} {n : Nd} (h : ∀ m c, acc.getLast? = some (m, c) → m ≠ n) : stepG acc n = acc ++ [(n, 1)] := by
  unfold stepG
  split
  · rename_i m c e
    rw [if_neg (h m c e)]
  · rfl
/-- the last group's node is the last node -/
theorem grp_last (ns : List Nd) (n : Nd) (c : Nat) (h : (grp ns).getLast? = some (n, c)) : ns.getLast? = some n := by
  rcases List.eq_nil_or_concat ns with rfl | ⟨init, z, rfl⟩
  · unfold grp at h
    simp at h
  · rw [List.concat_eq_append] at *
    rw [grp_app] at h
    obtain ⟨i, d, e⟩ := stepG_last (grp init) z
    rw [e, List.getLast?_append] at h
    simp at h
    rw [List.getLast?_append]
    simp [h.1]
theorem grp_rep (ns : List Nd) (a : Nd) (h : ns.getLast? ≠ some a) : ∀ k : Nat, grp (ns ++ List.replicate (k + 1) a) = grp ns ++ [(a, k + 1)]
  | 0 => by
    show grp (ns ++ [a]) = _
    rw [grp_app]
    refine stepG_ne fun m c e z => h ?_
    rw [grp_last ns m c e, z]
  | k + 1 => by
    rw [List.replicate_succ', ← List.append_assoc, grp_app, grp_rep ns a h k, stepG_eq]
def mkRun (p : Nd × Nat) : Nd := if p.2 = 1 then p.1 else .run p.1 p.2
def mkRuns (ns : List Nd) : List Nd := (grp ns).map mkRun
theorem stepG_len (acc : List (Nd × Nat)) (n : Nd) : (stepG acc n).length ≤ acc.length + 1 := by
  unfold stepG
  split
  · split
    · rename_i e _
      have := List.length_pos_iff.mpr (show acc ≠ [] from fun z => by rw [z] at e; cases e)
      simp
      try omega
    · simp
  · simp
theorem grp_foot (ns : List Nd) : ∀ p ∈ grp ns, p.1 ∈ ns ∧ 1 ≤ p.2 ∧ p.2 ≤ ns.length := by
  rcases h : ns.reverse with _ | ⟨z, r⟩
  all_goals skip
  · have : ns = [] := by simpa using h
    subst this
    unfold grp
    intro p hp
    exact nomatch hp
  · have e : ns = r.reverse ++ [z] := by
      have := congrArg List.reverse h
      simpa using this
    rw [e]
    clear h e
    generalize r.reverse = xs
    clear r
    suffices hh : ∀ (k : Nat) (xs : List Nd), xs.length = k → ∀ p ∈ grp xs, p.1 ∈ xs ∧ 1 ≤ p.2 ∧ p.2 ≤ xs.length from hh _ _ rfl
    intro k
    induction k with
    | zero =>
      intro xs hx p hp
      rw [List.eq_nil_of_length_eq_zero hx] at hp
      unfold grp at hp
      exact nomatch hp
    | succ k ih =>
      intro xs hx p hp
      rcases List.eq_nil_or_concat xs with rfl | ⟨i, y, rfl⟩
      · simp at hx
      · rw [List.concat_eq_append] at *
        have hi : i.length = k := by simpa using hx
        have g := ih i hi
        rw [grp_app] at hp
        unfold stepG at hp
        split at hp
        · rename_i m c e
          have gm := g (m, c) (List.mem_of_getLast? e)
          split at hp
          · rcases List.mem_append.mp hp with hp | hp
            · have := g p ((List.dropLast_sublist _).subset hp)
              simp
              exact ⟨.inl this.1, this.2.1, by omega⟩
            · rw [List.mem_singleton.mp hp]
              simp
              simp at gm
              omega
          · rcases List.mem_append.mp hp with hp | hp
            · have := g p hp
              simp
              exact ⟨.inl this.1, this.2.1, by omega⟩
            · rw [List.mem_singleton.mp hp]
              simp
        · rcases List.mem_append.mp hp with hp | hp
          · have := g p hp
            simp
            exact ⟨.inl this.1, this.2.1, by omega⟩
          · rw [List.mem_singleton.mp hp]
            simp
theorem grp_len (ns : List Nd) : (grp ns).length ≤ ns.length := by
  suffices hh : ∀ (xs : List Nd) (acc : List (Nd × Nat)), (xs.foldl stepG acc).length ≤ acc.length + xs.length from by
    have := hh ns []
    show (ns.foldl stepG []).length ≤ _
    simpa using this
  intro xs
  induction xs with
  | nil => intro acc; simp
  | cons x r ih =>
    intro acc
    have h1 := ih (stepG acc x)
    have h2 := stepG_len acc x
    rw [List.foldl_cons, List.length_cons]
    omega
theorem mkRuns_ok {ns : List Nd} {l : Nat} (h : OkAll ns l) (nr : ∀ n ∈ ns, n.isRun = false) (hz : ns.length ≤ 10 ^ 60) : OkAll (mkRuns ns) l := OkAll.of fun n hn => by
  obtain ⟨p, hp, rfl⟩ := List.mem_map.mp hn
  obtain ⟨h1, h2, h3⟩ := grp_foot ns p hp
  unfold mkRun
  split
  · exact h.mem _ h1
  · unfold Ok
    exact ⟨by omega, Nat.le_trans h3 hz, nr _ h1, h.mem _ h1⟩
end
end Loc
namespace Loc
open PySem PySem.Spec PyProof.Rows L2
/-! pairs of a node and a count -/
def pdat (p : Nd × Nat) : PyData := .tuple [dat p.1, .int (p.2 : Int)]
abbrev PrsV (K : PySem.W.Frag) (H : Hp) (vs : List V) (ps : List (Nd × Nat)) : Prop := DpAll K H vs (ps.map pdat)
section
variable {K : PySem.W.Frag} {H H' : Hp}
theorem PrsV.one {a : Addr} {v : V} {p : Nd × Nat} (h : SqT K H a [v, .int (p.2 : Int)]) (k : NdV K H v p.1) : PrsV K H [.ref a] [p] := .cons (.tup h (.cons k (.cons (.int _) .nil))) .nil
theorem PrsV.inv {v : V} {p : Nd × Nat} (h : Dp K H v (pdat p)) : ∃ a u, v = .ref a ∧ SqT K H a [u, .int (p.2 : Int)] ∧ NdV K H u p.1 := by
  unfold pdat at h
  cases h with
  | tup h1 h2 =>
    cases h2 with
    | cons k1 h2 =>
      cases h2 with
      | cons k2 h2 =>
        cases h2
        cases k2
        exact ⟨_, _, rfl, h1, k1⟩
theorem DpAll.len : ∀ {ds : List PyData} {vs : List V}, DpAll K H vs ds → vs.length = ds.length
  | _, _, .nil => rfl
  | _, _, .cons _ t => by rw [List.length_cons, List.length_cons, DpAll.len t]
theorem DpAll.app : ∀ {ds es : List PyData} {vs us : List V}, DpAll K H vs ds → DpAll K H us es → DpAll K H (vs ++ us) (ds ++ es)
  | _, _, _, _, .nil, k => k
  | _, _, _, _, .cons h t, k => .cons h (DpAll.app t k)
theorem DpAll.split : ∀ {ds es : List PyData} {vs : List V}, DpAll K H vs (ds ++ es) → ∃ us ws, vs = us ++ ws ∧ DpAll K H us ds ∧ DpAll K H ws es
  | [], es, vs, h => ⟨[], vs, rfl, .nil, h⟩
  | d :: ds, es, _, .cons h t => by
    obtain ⟨us, ws, rfl, h1, h2⟩ := DpAll.split (ds := ds) (es := es) t
    exact ⟨_ :: us, ws, rfl, .cons h h1, h2⟩
theorem DpAll.get : ∀ {ds : List PyData} {vs : List V} {i : Nat} {v : V}, DpAll K H vs ds → vs[i]? = some v → ∃ d, ds[i]? = some d ∧ Dp K H v d
  | _, _, _, _, .nil, e => by simp at e
  | _, _, 0, _, .cons h t, e => by
    simp at e
    subst e
    exact ⟨_, rfl, h⟩
  | _, _, i + 1, _, .cons h t, e => by
    obtain ⟨d, h1, h2⟩ := DpAll.get (i := i) t (by simpa using e)
    exact ⟨d, by simpa using h1, h2⟩
theorem Pr.up (e : Tups K H H') {v : V} {p : Nd × Nat} (h : Dp K H v (pdat p)) : Dp K H' v (pdat p) := by
  obtain ⟨a, u, rfl, h1, h2⟩ := PrsV.inv h
  exact .tup (e _ _ h1) (.cons (h2.up e) (.cons (.int _) .nil))
theorem PrsV.up (e : Tups K H H') : ∀ {ps : List (Nd × Nat)} {vs : List V}, PrsV K H vs ps → PrsV K H' vs ps
  | [], _, h => by
    cases h
    exact .nil
  | p :: r, _, h => by
    cases h with
    | cons h1 h2 => exact .cons (Pr.up e h1) (PrsV.up e h2)
theorem canLay_prs (l : Nat) : ∀ ps : List (Nd × Nat), (∀ p ∈ ps, Ok p.1 l) → PyData.canLayAll0 (ps.map pdat) = true ∧ PyData.depthAll (ps.map pdat) ≤ 3 * l + 2
  | [], _ => by simp [PyData.canLayAll0, PyData.depthAll]
  | p :: r, h => by
    have h1 := canLay_dat p.1
    have h2 := depth_le (h p List.mem_cons_self)
    have h3 := canLay_prs l r fun q hq => h q (List.mem_cons_of_mem _ hq)
    constructor
    · simp only [List.map_cons, PyData.canLayAll0, pdat, PyData.canLay0, h1, Bool.true_and]
      exact h3.1
    · have := h3.2
      simp only [List.map_cons, PyData.depthAll, pdat, PyData.depth]
      omega
theorem shaped_prs {l : Nat} {ps : List (Nd × Nat)} (h : ∀ p ∈ ps, Ok p.1 l) (hl : l ≤ 20) : SeqAt.shaped (.list (ps.map pdat)) = true := by
  obtain ⟨h1, h2⟩ := canLay_prs l ps h
  unfold SeqAt.shaped
  rw [Bool.and_eq_true]
  exact ⟨by simpa [PyData.canLay0] using h1, decide_eq_true (by simp only [PyData.depth]; omega)⟩
theorem eqv_emptyP (ps : List (Nd × Nat)) : PyData.eqv (.list (ps.map pdat)) (.list []) = ps.isEmpty := by
  cases ps <;> simp [PyData.eqv, PyData.eqvAll]
theorem ixN_last {n : Nat} : ixN (n + 1) (-1) = some n := by
  unfold ixN
  rw [if_neg (by omega), if_pos (by omega)]
  congr 1
  omega
end
theorem cut_to (xs : List V) (k : Nat) : cutV xs none (some (k : Int)) = xs.take k := by
  unfold cutV
  rw [HT.sIx_none, HT.sIx_nat, List.drop_zero, Nat.sub_zero]
  rcases Nat.le_total k xs.length with h | h
  · rw [Nat.min_eq_left h]
  · rw [Nat.min_eq_right h, List.take_length, List.take_of_length_le h]
theorem rep_one {α : Type} (x : α) : ∀ k : Nat, (List.replicate k [x]).flatten = List.replicate k x
  | 0 => rfl
  | k + 1 => by rw [List.replicate_succ, List.flatten_cons, rep_one x k]; rfl
theorem NdsV.rep {K : PySem.W.Frag} {H : Hp} {v : V} {a : Nd} (h : NdV K H v a) : ∀ k : Nat, NdsV K H (List.replicate k v) (List.replicate k a)
  | 0 => .nil
  | k + 1 => by
    rw [List.replicate_succ, List.replicate_succ]
    exact .cons h (NdsV.rep h k)
theorem NdsV.take {K : PySem.W.Frag} {H : Hp} : ∀ {ps : List Nd} {vs : List V} (k : Nat), NdsV K H vs ps → NdsV K H (vs.take k) (ps.take k)
  | [], vs, k, h => by rw [h.inv0]; simp; exact .nil
  | a :: r, vs, 0, h => by simp; exact .nil
  | a :: r, vs, k + 1, h => by
    obtain ⟨v, q, rfl, k1, k2⟩ := h.inv
    rw [List.take_succ_cons, List.take_succ_cons]
    exact .cons k1 (NdsV.take k k2)
end Loc
namespace Loc
open PySem PySem.Spec PyProof.Rows L2
section
variable {K : PySem.W.Frag} {H : Hp}
theorem PrsV.app {ps qs : List (Nd × Nat)} {vs us : List V} (h : PrsV K H vs ps) (k : PrsV K H us qs) : PrsV K H (vs ++ us) (ps ++ qs) := by
  show DpAll K H _ _
  rw [List.map_append]
  exact DpAll.app h k
theorem PrsV.split {ps : List (Nd × Nat)} {p : Nd × Nat} {vs : List V} (h : PrsV K H vs (ps ++ [p])) : ∃ us a u, vs = us ++ [.ref a] ∧ PrsV K H us ps ∧ SqT K H a [u, .int (p.2 : Int)] ∧ NdV K H u p.1 := by
  have h : DpAll K H vs ((ps ++ [p]).map pdat) := h
  rw [List.map_append] at h
  obtain ⟨us, ws, rfl, h1, h2⟩ := DpAll.split h
  cases h2 with
  | cons k1 k2 =>
    cases k2
    obtain ⟨a, u, rfl, t1, t2⟩ := PrsV.inv k1
    exact ⟨us, a, u, rfl, h1, t1, t2⟩
theorem PrsV.len {ps : List (Nd × Nat)} {vs : List V} (h : PrsV K H vs ps) : vs.length = ps.length := by rw [DpAll.len h, List.length_map]
theorem PrsV.get {ps : List (Nd × Nat)} {vs : List V} {i : Nat} {v : V} (h : PrsV K H vs ps) (e : vs[i]? = some v) : ∃ p a u, ps[i]? = some p ∧ v = .ref a ∧ SqT K H a [u, .int (p.2 : Int)] ∧ NdV K H u p.1 := by
  obtain ⟨d, h1, h2⟩ := DpAll.get h e
  rw [List.getElem?_map] at h1
  obtain ⟨p, hp, rfl⟩ := Option.map_eq_some_iff.mp h1
  obtain ⟨a, u, rfl, t1, t2⟩ := PrsV.inv h2
  exact ⟨p, a, u, hp, rfl, t1, t2⟩
end
end Loc

set_option Elab.async false
set_option linter.all false
set_option maxRecDepth 100000
namespace C05
open PySem PySem.Spec PyProof.Rows L2 Loc
def topS (i : Nat) : Stmt := PySem.Challenge.pw_localblocks_k05_runs_made.main.body.getD i (.Pass ⟨0, 0, 0, 0⟩)
abbrev sRunOf : Stmt := topS 1
abbrev sMade : Stmt := topS 3
abbrev sPot : Stmt := topS 5
abbrev sTake : Stmt := topS 6
abbrev sOf : Stmt := topS 7
abbrev sJoined : Stmt := topS 8
abbrev sGround : Stmt := topS 9
abbrev sLeaf : Stmt := topS 10
abbrev sRow : Stmt := topS 11
abbrev sBlock : Stmt := topS 12
abbrev sTwins : Stmt := topS 13
abbrev sUnlike : Stmt := topS 14
abbrev sPool : Stmt := topS 15
abbrev sLaw : Stmt := topS 16
/-! ### the law's pot -/
section
variable {P : Program} {w : World} {K : PySem.W.Frag} {mg : Str → Option Value} {base : Heap}
theorem scPot : FnScope ["script", "k", "cell", "own"] ["script", "k"] (defScope sPot) := ⟨rfl, rfl, rfl, by decide +kernel, rfl, by decide +kernel, by decide +kernel⟩
theorem scTake : FnScope ["pot", "bound", "digit", "prime", "mixed"] ["pot", "bound"] (defScope sTake) := ⟨rfl, rfl, rfl, by decide +kernel, rfl, by decide +kernel, by decide +kernel⟩
theorem ok_pot {f : Addr} {fd : FuncData} {k : Nat} (F : Fun K "_law_pot" "_law_pot" sPot f fd) (ml : mg "len" = none) (ma : mg "abs" = none) (mi : mg "int" = none) :
    FnOk P w K mg base CX0 (k + 1) f fd ["script", "k"] (spPot K) := by
  refine F.ok scPot (fun vs H Q E h => ?_) (fun cdv A outer s H vs Q E hr h => ?_)
  · obtain ⟨a, ns, k, rfl, _⟩ := h
    rfl
  · obtain ⟨a, ns, k, rfl, hS, hl, hk, q⟩ := h
    refine ⟨_, pss_cons (ps_set (i := 2) scPot.nd rfl (.inl rfl) (pe_ifExp (pt_cmpR op_lt (pv 1) (pe_callB call_len_seq (by rfl) ml PySem.boot_len (pa_cons (pv 0) pa_nil)) (nomark _))
          (pe_ix ix_list (pv 0) (pv 1) (fun _ _ => rfl)) (pe_op op_add (pe_op op_mul pe_int (pv 1)) pe_int)))
      (pss_cons (ps_set (i := 3) scPot.nd rfl (.inl rfl) (pe_op op_mul
          (pe_op op_mod (pe_callB call_abs (by rfl) ma (by decide +kernel) (pa_cons (pv 2) pa_nil)) (pe_op op_powW (pe_op op_pow pe_int pe_int) pe_int))
          (pe_callTy call_int1 (by rfl) mi (by decide +kernel) (pa_cons (pe_cmpR op_ge (pe_callB call_abs (by rfl) ma (by decide +kernel) (pa_cons (pv 2) pa_nil)) (pe_op op_pow pe_int pe_int) (nomark _)) pa_nil))))
      (pss_one (ps_ret (pe_lst (pa_cons (pv 3) (pa_cons (pe_op op_mod (pe_op op_add (pe_op op_add (pe_op op_mul (pe_op op_mod (pv 2) pe_int) pe_int) (pe_op op_mul (pe_op op_mul pe_int (pv 1)) (pv 1))) pe_int) pe_int)
          (pa_cons pe_int pa_nil))))))), ?_⟩
    refine ⟨.int k, rfl, .ref a, rfl, a, ns.map V.int, rfl, .inl hS, k, (ns.map V.int).length, rfl, rfl, _, rfl, ?_⟩
    refine joinIf (fun v H' => (∃ c : Int, v = .int c) ∧ H' = H) ?key (fun e R hR => ?yes) (fun e R hR => ?no)
    case yes =>
      have e1 : (k : Int) < ((ns.map V.int).length : Int) := of_decide_eq_true e
      rw [List.length_map] at e1
      have hk2 : k < ns.length := by omega
      refine ⟨.ref a, rfl, .int k, rfl, a, _, k, .int ns[k], rfl, rfl, hS, atI_nat (by rw [List.getElem?_map, List.getElem?_eq_getElem hk2]; rfl), hR _ _ ⟨⟨_, rfl⟩, rfl⟩⟩
    case no =>
      exact ⟨.int k, rfl, 17, k, rfl, rfl, .inl ⟨by decide, by decide⟩, _, _, rfl, rfl, hR _ _ ⟨⟨_, rfl⟩, rfl⟩⟩
    case key =>
      rintro v H' ⟨⟨c, rfl⟩, rfl⟩
      refine ⟨.int c, rfl, c, rfl, 10, 60, rfl, rfl, ⟨by decide, by decide, by decide⟩, _, _, rfl, rfl, pow60, _, _, rfl, rfl, pow300', ?_⟩
      have m1 := mod_pos (a := if c < 0 then -c else c) pow300'
      have m2 := pow300
      refine ⟨.int c, rfl, c, rfl, 10, 18, rfl, rfl, ⟨by decide, by decide, by decide⟩, _, _, rfl, rfl, .inr ⟨_, rfl, _, _, rfl, rfl, .inr ?_, ?_⟩⟩
      · exact bit_small _
      have m3 := mul_bit ⟨m1.1, Int.lt_trans m1.2 m2⟩ (decide ((10 : Int) ^ (18 : Int).toNat ≤ if c < 0 then -c else c))
      have m4 := mod_pos (a := c) (show (0 : Int) < 2305843009213693951 by decide)
      refine ⟨_, rfl, .int c, rfl, c, _, rfl, rfl, (by show (0 : Int) < 2305843009213693951; decide), _, _, rfl, rfl, .inr ⟨by decide, by decide⟩, .int k, rfl, 7907, k, rfl, rfl, .inl ⟨by decide, by decide⟩, .int k, rfl, _, _, rfl, rfl, .inr ⟨by omega, by omega⟩,
        _, _, rfl, rfl, _, 41, rfl, rfl, _, _, rfl, rfl, (by show (0 : Int) < 2305843009213693921; decide), (show 3 ≤ sizeLine from by decide), fun p hp => ?_⟩
      have m5 := mod_pos (a := c % 2305843009213693951 * 69691 + 7907 * (k : Int) * (k : Int) + 41) (show (0 : Int) < 2305843009213693921 by decide)
      exact q p _ hp ⟨_, _, 0, rfl, m3.1, m3.2, m5.1, by omega, by decide, by decide⟩
theorem ok_take {f : Addr} {fd : FuncData} {k : Nat} (F : Fun K "_law_take" "_law_take" sTake f fd) : FnOk P w K mg base CX0 (k + 1) f fd ["pot", "bound"] spTake := by
  refine F.ok scTake (fun vs H Q E h => ?_) (fun cdv A outer s H vs Q E hr h => ?_)
  · obtain ⟨p, b, c, rfl, _⟩ := h
    rfl
  · obtain ⟨p, b, c, rfl, ⟨o, ep, own, mix, cnt, rfl, h1, h2, h3, h4, h5, h6⟩, hc, b1, b2, q⟩ := h
    refine ⟨_, pss_cons (ps_if (pt_cmpR op_gt (pe_ix ix_list (pv 0) pe_int (fun _ _ => rfl)) pe_int (nomark _))
        (pss_cons (ps_set (i := 2) scTake.nd rfl (.inl rfl) (pe_op op_mod (pe_ix ix_list (pv 0) pe_int (fun _ _ => rfl)) (pv 1)))
          (pss_cons (ps_asg (pe_op op_fdivW (pe_ix ix_list (pv 0) pe_int (fun _ _ => rfl)) (pv 1)) (pg_sub (pv 0) pe_int set_list)) (pss_one (ps_ret (pv 2))))) pss_nil)
      (pss_cons (ps_asg (pe_op op_add (pe_ix ix_list (pv 0) pe_int (fun _ _ => rfl)) pe_int) (pg_sub (pv 0) pe_int set_list))
      (pss_cons (ps_set (i := 3) scTake.nd rfl (.inl rfl) (pe_ix ix_list (pe_lst (pa_cons pe_int (pa_cons pe_int (pa_cons pe_int (pa_cons pe_int (pa_cons pe_int pa_nil)))))) (pe_op op_mod (pe_ix ix_list (pv 0) pe_int (fun _ _ => rfl)) pe_int) (fun _ _ => rfl)))
      (pss_cons (ps_set (i := 4) scTake.nd rfl (.inl rfl) (pe_op op_mod (pe_op op_pow (pe_op op_add (pe_op op_add (pe_ix ix_list (pv 0) pe_int (fun _ _ => rfl))
          (pe_op op_mul (pe_op op_mul pe_int (pe_ix ix_list (pv 0) pe_int (fun _ _ => rfl))) (pe_ix ix_list (pv 0) pe_int (fun _ _ => rfl)))) pe_int) pe_int) (pv 3)))
      (pss_one (ps_ret (pe_op op_mod (pe_op op_fdiv (pe_op op_mod (pe_op op_mul (pv 4) (pe_op op_add (pe_op op_mod (pv 4) pe_int) (pe_op op_mul pe_int (pe_ix ix_list (pv 0) pe_int (fun _ _ => rfl))))) pe_int) pe_int) (pv 1))))))), ?_⟩
    have hS : SqL K H p [.int own, .int mix, .int cnt] := .inl (.inl ep)
    refine ⟨.ref p, rfl, p, _, 0, .int own, rfl, rfl, hS, rfl, own, 0, rfl, rfl, _, rfl, ite2 (fun e => ?_) (fun e => ?_)⟩
    · have hpos : 0 < own := of_decide_eq_true e
      refine ⟨.ref p, rfl, p, _, 0, .int own, rfl, rfl, hS, rfl, .int b, rfl, own, b, rfl, rfl, b1, ?_⟩
      refine ⟨.ref p, rfl, p, _, 0, .int own, rfl, rfl, hS, rfl, .int b, rfl, own, b, rfl, rfl, ⟨b1, ?_⟩, .ref p, rfl, p, _, 0, 0, rfl, rfl, ep, rfl, ?_⟩
      · exact (wide_div (i := own) b1 (natAbs_lt (Int.le_of_lt b1) b2) (by decide) (by decide)).2
      · have dv := div_small h1 b1
        exact ⟨.int (own % b), rfl, q _ _ (mod_pos b1).1 (mod_pos b1).2 .set (.put ⟨own / b, mix, cnt, rfl, dv.1, Int.lt_of_le_of_lt dv.2 h2, h3, h4, h5, by omega⟩)⟩
    · refine ⟨.ref p, rfl, p, _, 2, .int cnt, rfl, rfl, hS, rfl, cnt, 1, rfl, rfl, .ref p, rfl, p, _, 2, 2, rfl, rfl, ep, rfl, ?_⟩
      refine ⟨(show 5 ≤ sizeLine from by decide), fun l hl => ?_⟩
      have np : p ≠ l := fun z => by
        rw [z, upd_same] at hl
        cases hl
      have hS1 : SqL K (upd (upd H p (.lst [.int own, .int mix, .int (cnt + 1)])) l (.lst [.int 2147483647, .int 2147483629, .int 2147483587, .int 2147483579, .int 2147483563])) p [.int own, .int mix, .int (cnt + 1)] :=
        .inl (.inl (by rw [upd_ne np, upd_same]))
      obtain ⟨pr, e1, e2, e3⟩ := prime_at (n := cnt + 1) (by omega)
      have bs := base_small h3 h4 (c := cnt + 1) (by omega) (by omega)
      refine ⟨.ref p, rfl, p, _, 2, .int (cnt + 1), rfl, rfl, hS1, rfl, cnt + 1, 5, rfl, rfl, (show (0 : Int) < 5 by decide), l, _, _, .int pr, rfl, rfl, .inl (.inl upd_same), e1, ?_⟩
      refine ⟨.ref p, rfl, p, _, 1, .int mix, rfl, rfl, hS1, rfl, .ref p, rfl, p, _, 2, .int (cnt + 1), rfl, rfl, hS1, rfl, 99991, cnt + 1, rfl, rfl, .inl ⟨by decide, by decide⟩,
        .ref p, rfl, p, _, 2, .int (cnt + 1), rfl, rfl, hS1, rfl, _, cnt + 1, rfl, rfl, .inr ⟨by omega, by omega⟩, mix, _, rfl, rfl, _, 29, rfl, rfl, _, 3, rfl, rfl, ⟨by decide, by decide, natAbs_lt bs.1 bs.2⟩, .int pr, rfl, _, pr, rfl, rfl, e2, ?_⟩
      have mx := mod_pos (a := (mix + 99991 * (cnt + 1) * (cnt + 1) + 29) ^ (3 : Int).toNat) e2
      have mx1 : -(2 ^ 64) < (mix + 99991 * (cnt + 1) * (cnt + 1) + 29) ^ (3 : Int).toNat % pr := Int.lt_of_lt_of_le (by decide) mx.1
      have mx2 : (mix + 99991 * (cnt + 1) * (cnt + 1) + 29) ^ (3 : Int).toNat % pr < 2 ^ 64 := Int.lt_trans mx.2 (Int.lt_trans e3 (by decide))
      refine ⟨_, rfl, _, rfl, _, 10007, rfl, rfl, (show (0 : Int) < 10007 by decide), .ref p, rfl, p, _, 2, .int (cnt + 1), rfl, rfl, hS1, rfl, 71, cnt + 1, rfl, rfl, .inl ⟨by decide, by decide⟩, _, _, rfl, rfl,
        _, _, rfl, rfl, .inl ⟨mx1, mx2⟩, _, _, rfl, rfl, (show (0 : Int) < 2305843009213693907 by decide), _, 103, rfl, rfl, ⟨by decide, by decide⟩, .int b, rfl, _, b, rfl, rfl, b1, ?_⟩
      exact q _ _ (mod_pos b1).1 (mod_pos b1).2 (But.trans .set (.new hl)) ⟨_, by rw [upd_ne np, upd_same]; rfl, own, mix, cnt + 1, rfl, h1, h2, h3, h4, by omega, by omega⟩
theorem scOf : FnScope ["pot", "some"] ["pot", "some"] (defScope sOf) := ⟨rfl, rfl, rfl, by decide +kernel, rfl, by decide +kernel, by decide +kernel⟩
theorem ok_of {f g : Addr} {fd gd : FuncData} {k : Nat} (F : Fun K "_law_of" "_law_of" sOf f fd) (T : Fun K "_law_take" "_law_take" sTake g gd) (gT : mg "_law_take" = some (.ref g)) (bT : Binds K gd ["pot", "bound"] [])
    (ml : mg "len" = none) : FnOk P w K mg base CX0 (k + 2) f fd ["pot", "some"] spOf := by
  have GT : FnOk P w K mg base CX0 (k + 1) g gd ["pot", "bound"] spTake := ok_take T
  refine F.ok scOf (fun vs H Q E h => ?_) (fun cdv A outer s H vs Q E hr h => ?_)
  · obtain ⟨p, a, xs, c, rfl, _⟩ := h
    rfl
  · obtain ⟨p, a, xs, c, rfl, hp, hc, ne, ha, h0, hl, q⟩ := h
    refine ⟨_, pss_one (ps_ret (pe_ix ix_list (pv 1) (pe_call GT hr (by rfl) gT T.kp bT .nil pass0 (pa_cons (pv 0) (pa_cons (pe_callB call_len_seq (by rfl) ml PySem.boot_len (pa_cons (pv 1) pa_nil)) pa_nil))) (fun _ _ => rfl))), ?_⟩
    have hS : SqL K H a xs := .inl (.inl ha)
    have hx : 0 < xs.length := List.length_pos_iff.mpr h0
    refine ⟨.ref a, rfl, .ref p, rfl, .ref a, rfl, a, xs, rfl, .inl hS, p, xs.length, c, rfl, hp, hc, by omega, small_pow hl, fun d H' d0 d1 bt pt => ?_⟩
    obtain ⟨j, rfl⟩ := Int.eq_ofNat_of_zero_le d0
    have hj : j < xs.length := by omega
    have g : xs[j]? = some xs[j] := List.getElem?_eq_getElem hj
    exact ⟨a, xs, j, xs[j], rfl, rfl, bt.sql ne hS, atI_nat g, q j _ H' g bt pt⟩
end
/-! ### the law's drawn nodes -/
section
variable {P : Program} {w : World} {K : PySem.W.Frag} {mg : Str → Option Value} {base : Heap}
theorem scGround : FnScope ["node"] ["node"] (defScope sGround) := ⟨rfl, rfl, rfl, by decide +kernel, rfl, by decide +kernel, by decide +kernel⟩
theorem ok_ground {f : Addr} {fd : FuncData} {k : Nat} (F : Fun K "_law_ground" "_law_ground" sGround f fd) (mi : mg "isinstance" = none) (mt : mg "tuple" = none) : FnOk P w K mg base CX0 (k + 1) f fd ["node"] (spGround K) := by
  refine F.ok scGround (fun vs H Q E h => ?_) (fun cdv A outer s H vs Q E hr h => ?_)
  · obtain ⟨v, n, rfl, _⟩ := h
    rfl
  · obtain ⟨v, n, rfl, hn, q⟩ := h
    refine ⟨_, pss_one (ps_ret (pe_ifExp (PW.pt (pw_and (pt_val (pe_callB call_isi (by rfl) mi PyProof.Rows.boot_isinstance (pa_cons (pv 0) (pa_cons (pe_bltn (v := .ty "tuple") (by rfl) mt PyProof.Rows.boot_tuple rfl) pa_nil))))
      (pw_and1 (pt_cmpR op_eq (pe_ix ix_tup (pv 0) pe_int (fun _ _ => rfl)) pe_str (nomark _))))) (pe_ix ix_tup (pv 0) pe_int (fun _ _ => rfl)) (pv 0))), ?_⟩
    cases n with
    | el n =>
      have ev := hn.el
      subst ev
      refine ⟨_, rfl, _, _, _, _, false, rfl, .ty "tuple", .base (.int _), kit_ty (by decide +kernel), _, rfl, ?_⟩
      exact ⟨_, rfl, q _ hn⟩
    | run b c =>
      obtain ⟨a, v2, rfl, h1, h2⟩ := hn.run
      refine ⟨_, rfl, _, _, _, _, true, rfl, .ty "tuple", Loc.SqT.ty h1, kit_ty (by decide +kernel), _, rfl, ?_⟩
      refine ⟨.ref a, rfl, a, _, 0, .str "run", rfl, rfl, h1, rfl, rfl, _, rfl, ?_⟩
      rw [decide_eq_true rfl]
      exact ⟨.ref a, rfl, a, _, 1, v2, rfl, rfl, h1, rfl, q _ h2⟩
    | blk ps =>
      obtain ⟨a, b, vs, rfl, h1, h2, h3⟩ := hn.blk
      refine ⟨_, rfl, _, _, _, _, true, rfl, .ty "tuple", Loc.SqT.ty h1, kit_ty (by decide +kernel), _, rfl, ?_⟩
      refine ⟨.ref a, rfl, a, _, 0, .str "block", rfl, rfl, h1, rfl, rfl, _, rfl, ?_⟩
      rw [decide_eq_false (show ¬ (V.str "block" = V.str "run") by decide +kernel)]
      exact ⟨.ref a, rfl, q _ hn⟩
theorem scLeaf : FnScope ["pot", "one"] ["pot"] (defScope sLeaf) := ⟨rfl, rfl, rfl, by decide +kernel, rfl, by decide +kernel, by decide +kernel⟩
theorem ok_leaf {f g o : Addr} {fd gd od : FuncData} {k : Nat} (F : Fun K "_law_leaf" "_law_leaf" sLeaf f fd) (T : Fun K "_law_take" "_law_take" sTake g gd) (gT : mg "_law_take" = some (.ref g)) (bT : Binds K gd ["pot", "bound"] [])
    (O : Fun K "_law_of" "_law_of" sOf o od) (gO : mg "_law_of" = some (.ref o)) (bO : Binds K od ["pot", "some"] []) (ml : mg "len" = none) : FnOk P w K mg base CX0 (k + 3) f fd ["pot"] (spLeaf K) := by
  have GT : FnOk P w K mg base CX0 (k + 1) g gd ["pot", "bound"] spTake := ok_take T
  have GO : FnOk P w K mg base CX0 (k + 2) o od ["pot", "some"] spOf := ok_of O T gT bT ml
  refine F.ok scLeaf (fun vs H Q E h => ?_) (fun cdv A outer s H vs Q E hr h => ?_)
  · obtain ⟨p, c, rfl, _⟩ := h
    rfl
  · obtain ⟨p, c, rfl, hp, hc, q⟩ := h
    have h1 := hr.mono (j := k + 1) (by omega)
    refine ⟨_, pss_cons (ps_set (i := 1) scLeaf.nd rfl (.inl rfl) (pe_call GO hr (by rfl) gO O.kp bO .nil pass0 (pa_cons (pv 0) (pa_cons (pe_lst (pa_cons pe_int (pa_cons pe_int (pa_cons pe_int (pa_cons pe_int (pa_cons pe_int (pa_cons pe_int (pa_cons pe_int
        (pa_cons (pe_op op_pow pe_int pe_int) (pa_cons (pe_call GT h1 (by rfl) gT T.kp bT .nil pass0 (pa_cons (pv 0) (pa_cons (pe_op op_add (pe_op op_pow pe_int pe_int) pe_int) pa_nil))) pa_nil)))))))))) pa_nil))))
      (pss_cons (ps_if (pt_cmpR op_gt (pe_call GT h1 (by rfl) gT T.kp bT .nil pass0 (pa_cons (pv 0) (pa_cons pe_int pa_nil))) pe_int (nomark _)) (pss_one (ps_ret (pv 1))) pss_nil)
      (pss_one (ps_ret (pe_tup (pa_cons pe_str (pa_cons (pv 1) (pa_cons (pe_op op_add pe_int (pe_call GO hr (by rfl) gO O.kp bO .nil pass0 (pa_cons (pv 0) (pa_cons (pe_lst (pa_cons pe_int (pa_cons pe_int (pa_cons pe_int (pa_cons pe_int
        (pa_cons (pe_op op_pow pe_int pe_int) (pa_cons (pe_call GT h1 (by rfl) gT T.kp bT .nil pass0 (pa_cons (pv 0) (pa_cons (pe_op op_pow pe_int pe_int) pa_nil))) pa_nil))))))) pa_nil)))) pa_nil))))))), ?_⟩
    refine ⟨.ref p, rfl, 10, 9, rfl, rfl, ⟨by decide, by decide, by decide⟩, .ref p, rfl, 10, 9, rfl, rfl, ⟨by decide, by decide, by decide⟩, _, 1, rfl, rfl, p, _, c, rfl, hp, by omega, (show (0 : Int) < 10 ^ (9 : Int).toNat + 1 by decide), (show (10 : Int) ^ (9 : Int).toNat + 1 < 2 ^ 1000 by decide +kernel),
      fun d H1 d0 d1 b1 p1 => ⟨(show 9 ≤ sizeLine from by decide), fun l hl => ?_⟩⟩
    have d1' : d < 1000000001 := d1
    refine ⟨p, l, _, _, rfl, p1.new hl, by omega, p1.ne hl, upd_same, List.cons_ne_nil _ _, (show 9 ≤ 1000 from by decide), fun j x H2 hj b2 p2 => ?_⟩
    have sm : Smalls (10 ^ 9) [V.int 0, .int 1, .int 2, .int 7, .int 12, .int 120, .int 9, .int ((10 : Int) ^ (9 : Int).toNat), .int d] :=
      .cons (n := 0) rfl (by decide) (.cons (n := 1) rfl (by decide) (.cons (n := 2) rfl (by decide) (.cons (n := 7) rfl (by decide) (.cons (n := 12) rfl (by decide) (.cons (n := 120) rfl (by decide) (.cons (n := 9) rfl (by decide)
        (.cons (n := 10 ^ 9) rfl (by decide) (.cons (n := d.toNat) (int_congr (by omega)) (by omega) .nil))))))))
    obtain ⟨n, rfl, hn⟩ := sm.at hj
    have b12 : But p H H2 := (b1.trans (.new hl)).trans b2
    refine ⟨.ref p, rfl, p, 3, _, rfl, p2, by omega, by decide, by decide +kernel, fun d2 H3 _ _ b3 p3 => ⟨d2, 0, rfl, rfl, _, rfl, ite2 (fun _ => ?_) (fun _ => ?_)⟩⟩
    · exact ⟨_, rfl, q _ _ _ (b12.trans b3) (p3.le (by omega)) (.ofEl n) (by unfold Ok; exact ⟨rfl, hn⟩)⟩
    · refine ⟨_, rfl, .ref p, rfl, 10, 18, rfl, rfl, ⟨by decide, by decide, by decide⟩, .ref p, rfl, 10, 18, rfl, rfl, ⟨by decide, by decide, by decide⟩, p, _, _, rfl, p3, by omega, (show (0 : Int) < 10 ^ (18 : Int).toNat by decide), (show (10 : Int) ^ (18 : Int).toNat < 2 ^ 1000 by decide +kernel),
        fun d4 H4 d40 d41 b4 p4 => ⟨(show 6 ≤ sizeLine from by decide), fun l4 hl4 => ?_⟩⟩
      have d41' : d4 < 1000000000000000000 := d41
      refine ⟨p, l4, _, _, rfl, p4.new hl4, by omega, p4.ne hl4, upd_same, List.cons_ne_nil _ _, (show 6 ≤ 1000 from by decide), fun j2 x2 H5 hj2 b5 p5 => ?_⟩
      have sm2 : Smalls (10 ^ 18) [V.int 0, .int 1, .int 9, .int 98, .int ((10 : Int) ^ (18 : Int).toNat), .int d4] :=
        .cons (n := 0) rfl (by decide) (.cons (n := 1) rfl (by decide) (.cons (n := 9) rfl (by decide) (.cons (n := 98) rfl (by decide) (.cons (n := 10 ^ 18) rfl (by decide) (.cons (n := d4.toNat) (int_congr (by omega)) (by omega) .nil)))))
      obtain ⟨m, rfl, hm⟩ := sm2.at hj2
      refine ⟨2, _, rfl, rfl, (show 3 ≤ sizeLine from by decide), fun t ht => ?_⟩
      have em : V.int (2 + (m : Int)) = V.int ((2 + m : Nat) : Int) := int_congr (by omega)
      refine q _ (.run (.el n) (2 + m)) _ ((((b12.trans b3).trans b4).trans (.new hl4)).trans (b5.trans (.new ht))) ((p5.new ht).le (by omega)) (.ofRun (v2 := .int n) (.inl (.inl ?_)) (.ofEl n)) ?_
      · rw [upd_same]
        exact congrArg (fun z => some (HO.tup [V.str "run", V.int n, z])) em
      · unfold Ok
        refine ⟨by omega, Nat.le_trans (Nat.add_le_add_left hm 2) (by decide), rfl, ?_⟩
        unfold Ok
        exact ⟨rfl, hn⟩
theorem scTwins : FnScope ["level", "one", "other"] ["level"] (defScope sTwins) := ⟨rfl, rfl, rfl, by decide +kernel, rfl, by decide +kernel, by decide +kernel⟩
theorem ok_twins {f : Addr} {fd : FuncData} (F : Fun K "_law_twins" "_law_twins" sTwins f fd) (g : mg "_law_twins" = some (.ref f)) (b : Binds K fd ["level"] []) : ∀ m : Nat, FnOk P w K mg base CX0 (m + 1) f fd ["level"] (spTwins K m)
  | 0 => ⟨fun vs H Q E h => by obtain ⟨z, l, _, _, h, _⟩ := h; exact absurd h (Nat.not_lt_zero _), fun A outer s H args us vs Q E _ _ _ _ h => by obtain ⟨z, l, _, _, h, _⟩ := h; exact absurd h (Nat.not_lt_zero _)⟩
  | m + 1 => by
    have IH : FnOk P w K mg base CX0 (m + 1) f fd ["level"] (spTwins K m) := ok_twins F g b m
    refine F.ok scTwins (fun vs H Q E h => ?_) (fun cdv A outer s H vs Q E hr h => ?_)
    · obtain ⟨z, l, rfl, _⟩ := h
      rfl
    · obtain ⟨z, l, rfl, rfl, hl, q⟩ := h
      refine ⟨_, pss_cons (ps_if (pt_cmpR op_eq (pv 0) pe_int (nomark _)) (pss_one (ps_ret (pe_tup (pa_cons pe_int (pa_cons pe_int pa_nil))))) pss_nil)
        (pss_cons (ps_asg (pe_call IH hr (by rfl) g F.kp b .nil pass0 (pa_cons (pe_op op_sub (pv 0) pe_int) pa_nil)) (pg_tup rfl (pgs_cons (pg_name (i := 1) scTwins.nd rfl (.inl rfl)) (pgs_cons (pg_name (i := 2) scTwins.nd rfl (.inl rfl)) pgs_nil))))
        (pss_one (ps_ret (pe_tup (pa_cons (pe_tup (pa_cons pe_str (pa_cons (pe_tup (pa_cons (pv 1) (pa_cons (pv 2) pa_nil))) pa_nil))) (pa_cons (pe_tup (pa_cons pe_str (pa_cons (pe_tup (pa_cons (pv 2) (pa_cons (pv 1) pa_nil))) pa_nil))) pa_nil)))))), ?_⟩
      refine ⟨_, rfl, rfl, _, rfl, ite2 (fun e => ?_) (fun e => ?_)⟩
      · have e0 : (l : Int) = 0 := V.int.inj (of_decide_eq_true e)
        have e1 : l = 0 := by omega
        subst e1
        exact ⟨(show 2 ≤ sizeLine from by decide), fun p hp => q _ p _ _ (sameN hp) upd_same (.ofEl 5) (.ofEl 6)⟩
      · obtain ⟨j, rfl⟩ : ∃ j, l = j + 1 := ⟨l - 1, by
          have : l ≠ 0 := fun z => e (by rw [z]; rfl)
          omega⟩
        refine ⟨_, rfl, _, 1, rfl, rfl, _, j, rfl, by omega, by omega, fun H1 a v1 v2 s1 ha k1 k2 => ?_⟩
        refine ⟨a, [v1, v2], rfl, .inl (.inl ha), rfl, v1, [v2], rfl, v2, [], rfl, rfl, ?_⟩
        refine ⟨v1, rfl, v2, rfl, (show 2 ≤ sizeLine from by decide), fun p1 n1 => ⟨(show 2 ≤ sizeLine from by decide), fun p2 n2 => ⟨v2, rfl, v1, rfl, (show 2 ≤ sizeLine from by decide), fun p3 n3 => ⟨(show 2 ≤ sizeLine from by decide), fun p4 n4 => ⟨(show 2 ≤ sizeLine from by decide), fun p5 n5 => ?_⟩⟩⟩⟩⟩
        have g5 := sameN (o := .tup [.ref p2, .ref p4]) n5
        have g4 := (sameN (o := .tup [.str "block", .ref p3]) n4).trans g5
        have g3 := (sameN (o := .tup [v2, v1]) n3).trans g4
        have g2 := (sameN (o := .tup [.str "block", .ref p1]) n2).trans g3
        have g1 := (sameN (o := .tup [v1, v2]) n1).trans g2
        have t1 : Tups K H1 _ := .of g1
        refine q _ p5 (.ref p2) (.ref p4) (s1.trans g1) upd_same ?_ ?_
        · exact .ofBlk (.inl (.inl (g3 _ _ upd_same))) (.inl (.inl (g2 _ _ upd_same))) (.cons (k1.up t1) (.cons (k2.up t1) .nil))
        · exact .ofBlk (.inl (.inl (g5 _ _ upd_same))) (.inl (.inl (g4 _ _ upd_same))) (.cons (k2.up t1) (.cons (k1.up t1) .nil))
theorem scUnlike : FnScope ["node", "level", "one", "other"] ["node", "level"] (defScope sUnlike) := ⟨rfl, rfl, rfl, by decide +kernel, rfl, by decide +kernel, by decide +kernel⟩
theorem ok_unlike {f g t : Addr} {fd gd td : FuncData} {m : Nat} (F : Fun K "_law_unlike" "_law_unlike" sUnlike f fd) (W : Fun K "_law_twins" "_law_twins" sTwins t td) (gW : mg "_law_twins" = some (.ref t)) (bW : Binds K td ["level"] [])
    (G : Fun K "_law_ground" "_law_ground" sGround g gd) (gG : mg "_law_ground" = some (.ref g)) (bG : Binds K gd ["node"] []) (mi : mg "isinstance" = none) (mt : mg "tuple" = none) :
    FnOk P w K mg base CX0 (m + 2) f fd ["node", "level"] (spUnlike K m) := by
  have GW : FnOk P w K mg base CX0 (m + 1) t td ["level"] (spTwins K m) := ok_twins W gW bW m
  have GG : FnOk P w K mg base CX0 (m + 1) g gd ["node"] (spGround K) := ok_ground G mi mt
  refine F.ok scUnlike (fun vs H Q E h => ?_) (fun cdv A outer s H vs Q E hr h => ?_)
  · obtain ⟨v, n, l, rfl, _⟩ := h
    rfl
  · obtain ⟨v, n, l, rfl, hl, h20, hn, okn, q⟩ := h
    refine ⟨_, pss_cons (ps_asg (pe_call GW hr (by rfl) gW W.kp bW .nil pass0 (pa_cons (pv 1) pa_nil)) (pg_tup rfl (pgs_cons (pg_name (i := 2) scUnlike.nd rfl (.inl rfl)) (pgs_cons (pg_name (i := 3) scUnlike.nd rfl (.inl rfl)) pgs_nil))))
      (pss_one (ps_ret (pe_ifExp (pt_cmpR (op_neD hr.units) (pv 2) (pe_call GG hr (by rfl) gG G.kp bG .nil pass0 (pa_cons (pv 0) pa_nil)) (nomark _)) (pv 2) (pv 3)))), ?_⟩
    refine ⟨_, rfl, _, l, rfl, rfl, hl, fun H1 a v1 v2 s1 ha k1 k2 => ?_⟩
    refine ⟨a, [v1, v2], rfl, .inl (.inl ha), rfl, v1, [v2], rfl, v2, [], rfl, rfl, ?_⟩
    have hn1 : NdV K H1 v n := hn.up (.of s1)
    obtain ⟨o1, o2, o3, o4, o5⟩ := tw_ok l
    refine ⟨v1, rfl, v, rfl, v, n, rfl, hn1, fun v' hv' => ⟨_, _, k1, hv', shaped_dat o1 h20, shaped_dat okn.base.1 h20, _, rfl, ?_⟩⟩
    by_cases e : (tw l).1 = n.base
    · rw [eqv_yes e]
      refine ⟨v2, rfl, q _ _ _ s1 k2 o2 ?_⟩
      rw [base_of_no o5, ← e]
      exact o3.symm
    · rw [eqv_no e]
      refine ⟨v1, rfl, q _ _ _ s1 k1 o1 ?_⟩
      rw [base_of_no o4]
      exact e
end
end C05

set_option Elab.async false
set_option linter.all false
set_option maxRecDepth 100000
namespace C05
open PySem PySem.Spec PyProof.Rows L2 Loc
section
variable {P : Program} {w : World} {K : PySem.W.Frag} {mg : Str → Option Value} {base : Heap}
theorem scRow : FnScope ["pot", "level", "many", "found", "node"] ["pot", "level", "many"] (defScope sRow) := ⟨rfl, rfl, rfl, by decide +kernel, rfl, by decide +kernel, by decide +kernel⟩
theorem scBlock : FnScope ["pot", "level", "parts", "node"] ["pot", "level"] (defScope sBlock) := ⟨rfl, rfl, rfl, by decide +kernel, rfl, by decide +kernel, by decide +kernel⟩
/-- what the names of the drawing defs hold -/
structure GenF (K : PySem.W.Frag) (mg : Str → Option Value) (fT fO fG fL fR fB fW fU : Addr) (dT dO dG dL dR dB dW dU : FuncData) : Prop where
  T : Fun K "_law_take" "_law_take" sTake fT dT
  O : Fun K "_law_of" "_law_of" sOf fO dO
  G : Fun K "_law_ground" "_law_ground" sGround fG dG
  L : Fun K "_law_leaf" "_law_leaf" sLeaf fL dL
  R : Fun K "_law_row" "_law_row" sRow fR dR
  B : Fun K "_law_block" "_law_block" sBlock fB dB
  W : Fun K "_law_twins" "_law_twins" sTwins fW dW
  U : Fun K "_law_unlike" "_law_unlike" sUnlike fU dU
  gT : mg "_law_take" = some (.ref fT)
  gO : mg "_law_of" = some (.ref fO)
  gG : mg "_law_ground" = some (.ref fG)
  gL : mg "_law_leaf" = some (.ref fL)
  gR : mg "_law_row" = some (.ref fR)
  gB : mg "_law_block" = some (.ref fB)
  gW : mg "_law_twins" = some (.ref fW)
  gU : mg "_law_unlike" = some (.ref fU)
  bT : Binds K dT ["pot", "bound"] []
  bO : Binds K dO ["pot", "some"] []
  bG : Binds K dG ["node"] []
  bL : Binds K dL ["pot"] []
  bR : Binds K dR ["pot", "level", "many"] []
  bB : Binds K dB ["pot", "level"] []
  bW : Binds K dW ["level"] []
  bU : Binds K dU ["node", "level"] []
  len : mg "len" = none
  tuple : mg "tuple" = none
  isinstance : mg "isinstance" = none
variable {fT fO fG fL fR fB fW fU : Addr} {dT dO dG dL dR dB dW dU : FuncData}
theorem ok_block (X : GenF K mg fT fO fG fL fR fB fW fU dT dO dG dL dR dB dW dU) {m k : Nat} (hk : 3 ≤ k) (GR : FnOk P w K mg base CX0 k fR dR ["pot", "level", "many"] (spRow K m)) : FnOk P w K mg base CX0 (k + 1) fB dB ["pot", "level"] (spBlock K (m + 1)) := by
  have GT : FnOk P w K mg base CX0 1 fT dT ["pot", "bound"] spTake := ok_take X.T
  have GO : FnOk P w K mg base CX0 2 fO dO ["pot", "some"] spOf := ok_of X.O X.T X.gT X.bT X.len
  refine X.B.ok scBlock (fun vs H Q E h => ?_) (fun cdv A outer s H vs Q E hr h => ?_)
  · obtain ⟨p, l, c, rfl, _⟩ := h
    rfl
  · obtain ⟨p, l, c, rfl, l1, l2, l3, hp, hc, q⟩ := h
    have h1 := hr.mono (j := 1) (by omega)
    have h2 := hr.mono (j := 2) (by omega)
    refine ⟨_, pss_cons (ps_set (i := 2) scBlock.nd rfl (.inl rfl) (pe_call GR hr (by rfl) X.gR X.R.kp X.bR .nil pass0 (pa_cons (pv 0) (pa_cons (pe_op op_sub (pv 1) pe_int)
          (pa_cons (pe_op op_add pe_int (pe_call GT h1 (by rfl) X.gT X.T.kp X.bT .nil pass0 (pa_cons (pv 0) (pa_cons pe_int pa_nil)))) pa_nil)))))
      (pss_cons (ps_set (i := 3) scBlock.nd rfl (.inl rfl) (pe_tup (pa_cons pe_str (pa_cons (pe_callTy call_tuple_of (by rfl) X.tuple PyProof.Rows.boot_tuple (pa_cons (pv 2) pa_nil)) pa_nil))))
      (pss_cons (ps_if (pt_cmpR op_gt (pe_call GT h1 (by rfl) X.gT X.T.kp X.bT .nil pass0 (pa_cons (pv 0) (pa_cons pe_int pa_nil))) pe_int (nomark _)) (pss_one (ps_ret (pv 3))) pss_nil)
      (pss_one (ps_ret (pe_tup (pa_cons pe_str (pa_cons (pv 3) (pa_cons (pe_op op_add pe_int (pe_call GO h2 (by rfl) X.gO X.O.kp X.bO .nil pass0 (pa_cons (pv 0) (pa_cons (pe_lst (pa_cons pe_int (pa_cons pe_int (pa_cons pe_int
        (pa_cons (pe_op op_pow pe_int pe_int) pa_nil))))) pa_nil)))) pa_nil)))))))), ?_⟩
    obtain ⟨j, rfl⟩ : ∃ j, l = j + 1 := ⟨l - 1, by omega⟩
    have cj : cost (j + 1) = 4 * cost j := rfl
    have cp := cost_pos j
    refine ⟨.ref p, rfl, _, rfl, _, 1, rfl, rfl, .ref p, rfl, p, 2, c, rfl, hp, by omega, by decide, by decide +kernel, fun d H1 d0 d1 b1 p1 => ⟨2, d, rfl, rfl, ?_⟩⟩
    have ev : V.int (2 + d) = V.int ((2 + d.toNat : Nat) : Int) := int_congr (by omega)
    refine ⟨p, _, j, 2 + d.toNat, _, congrArg (fun z => [V.ref p, V.int ((j + 1 : Nat) - 1 : Int), z]) ev, by omega, by omega, by omega, by omega, p1, by omega, fun H2 a vs' ns b2 na ha hn hok hu hl p2 => ?_⟩
    have mul : (2 + d.toNat) * cost j ≤ 3 * cost j := Nat.mul_le_mul_right _ (by omega)
    refine ⟨.ref a, rfl, a, _, rfl, .inl ⟨.inl (.inl ha), fun t1 n1 => ⟨(show 2 ≤ sizeLine from by decide), fun t2 n2 => ?_⟩⟩⟩
    have g2 := sameN (o := .tup [.str "block", .ref t1]) n2
    have g1 := (sameN (o := .tup vs') n1).trans g2
    have b12 := ((b1.trans b2).trans (But.new (o := .tup vs') n1)).trans (But.new (o := .tup [.str "block", .ref t1]) n2)
    have nb : NdV K (upd (upd H2 t1 (.tup vs')) t2 (.tup [.str "block", .ref t1])) (.ref t2) (.blk ns) := NdV.ofBlk (.inl (.inl upd_same)) (.inl (.inl (g2 _ _ upd_same))) (hn.up (.of g1))
    have okb : Ok (.blk ns) (j + 1) := by
      unfold Ok
      exact ⟨by omega, by omega, by omega, hok, hu⟩
    have p2' := (p2.new (o := .tup vs') n1).new (o := .tup [.str "block", .ref t1]) n2
    refine ⟨.ref p, rfl, p, 5, _, rfl, p2', by omega, by decide, by decide +kernel, fun d2 H3 _ _ b3 p3 => ⟨d2, 0, rfl, rfl, _, rfl, ite2 (fun _ => ?_) (fun _ => ?_)⟩⟩
    · exact ⟨_, rfl, q _ _ _ (b12.trans b3) (nb.up (b3.tupsP p2')) okb (p3.le (by omega))⟩
    · refine ⟨_, rfl, .ref p, rfl, 10, 18, rfl, rfl, ⟨by decide, by decide, by decide⟩, (show 4 ≤ sizeLine from by decide), fun l4 hl4 => ?_⟩
      refine ⟨p, l4, _, _, rfl, p3.new hl4, by omega, p3.ne hl4, upd_same, List.cons_ne_nil _ _, (show 4 ≤ 1000 from by decide), fun j2 x2 H5 hj2 b5 p5 => ?_⟩
      have sm2 : Smalls (10 ^ 18) [V.int 0, .int 1, .int 8, .int ((10 : Int) ^ (18 : Int).toNat)] :=
        .cons (n := 0) rfl (by decide) (.cons (n := 1) rfl (by decide) (.cons (n := 8) rfl (by decide) (.cons (n := 10 ^ 18) rfl (by decide) .nil)))
      obtain ⟨mm, rfl, hm⟩ := sm2.at hj2
      refine ⟨2, _, rfl, rfl, (show 3 ≤ sizeLine from by decide), fun t ht => ?_⟩
      have em : V.int (2 + (mm : Int)) = V.int ((2 + mm : Nat) : Int) := int_congr (by omega)
      have nb3 := nb.up (b3.tupsP p2')
      have nb5 := (nb3.up (.of (sameN hl4))).up (b5.tupsP (p3.new hl4))
      refine q _ _ (.run (.blk ns) (2 + mm)) (((b12.trans b3).trans (.new hl4)).trans (b5.trans (.new ht))) (.ofRun (v2 := .ref t2) (.inl (.inl ?_)) (nb5.up (.of (sameN ht)))) ?_ ((p5.new ht).le (by omega))
      · rw [upd_same]
        exact congrArg (fun z => some (HO.tup [V.str "run", V.ref t2, z])) em
      · unfold Ok
        exact ⟨by omega, Nat.le_trans (Nat.add_le_add_left hm 2) (by decide), rfl, okb⟩
theorem ok_row (X : GenF K mg fT fO fG fL fR fB fW fU dT dO dG dL dR dB dW dU) {m k : Nat} (hk : m + 3 ≤ k) (hk4 : 4 ≤ k) (GB : FnOk P w K mg base CX0 k fB dB ["pot", "level"] (spBlock K (m + 1))) :
    FnOk P w K mg base CX0 (k + 1) fR dR ["pot", "level", "many"] (spRow K (m + 1)) := by
  have GL : FnOk P w K mg base CX0 3 fL dL ["pot"] (spLeaf K) := ok_leaf X.L X.T X.gT X.bT X.O X.gO X.bO X.len
  have GG : FnOk P w K mg base CX0 1 fG dG ["node"] (spGround K) := ok_ground X.G X.isinstance X.tuple
  have GU : FnOk P w K mg base CX0 (m + 3) fU dU ["node", "level"] (spUnlike K (m + 1)) := ok_unlike X.U X.W X.gW X.bW X.G X.gG X.bG X.isinstance X.tuple
  refine X.R.ok scRow (fun vs H Q E h => ?_) (fun cdv A outer s H vs Q E hr h => ?_)
  · obtain ⟨p, z, l, many, c, rfl, _⟩ := h
    rfl
  · obtain ⟨p, z, l, many, c, rfl, rfl, l2, l3, hm, hp, hc, q⟩ := h
    have r1 := hr.mono (j := 1) (by omega)
    have r3 := hr.mono (j := 3) (by omega)
    have rU := hr.mono (j := m + 3) (by omega)
    refine ⟨_, pss_cons (ps_set (i := 3) scRow.nd rfl (.inl rfl) (pe_lst pa_nil))
      (pss_cons (ps_while PassesOwn.never (pt_cmpR op_lt (pe_callB call_len_seq (by rfl) X.len PySem.boot_len (pa_cons (pv 3) pa_nil)) (pv 2) (nomark _))
        (pss_cons (ps_set (i := 4) scRow.nd rfl (.inl rfl) (pe_ifExp (pt_cmpR op_eq (pv 1) pe_int (nomark _)) (pe_call GL r3 (by rfl) X.gL X.L.kp X.bL .nil pass0 (pa_cons (pv 0) pa_nil)) (pe_call GB hr (by rfl) X.gB X.B.kp X.bB .nil pass0 (pa_cons (pv 0) (pa_cons (pv 1) pa_nil)))))
        (pss_cons (ps_if (PW.pt (pw_and (pt_cmpR (op_neD hr.units) (pv 3) (pe_lst pa_nil) (nomark _)) (pw_and1 (pt_cmpR (op_eqD hr.units) (pe_call GG r1 (by rfl) X.gG X.G.kp X.bG .nil pass0 (pa_cons (pe_ix ix_list (pv 3) (pe_un un_neg pe_int) (fun _ _ => rfl)) pa_nil))
            (pe_call GG r1 (by rfl) X.gG X.G.kp X.bG .nil pass0 (pa_cons (pv 4) pa_nil)) (nomark _))))) (pss_one (ps_set (i := 4) scRow.nd rfl (.inl rfl) (pe_ix ix_list (pv 3) pe_int (fun _ _ => rfl)))) pss_nil)
        (pss_cons (ps_if (PW.pt (pw_and (pt_cmpR (op_neD hr.units) (pv 3) (pe_lst pa_nil) (nomark _)) (pw_and1 (pt_cmpR (op_eqD hr.units) (pe_call GG r1 (by rfl) X.gG X.G.kp X.bG .nil pass0 (pa_cons (pe_ix ix_list (pv 3) (pe_un un_neg pe_int) (fun _ _ => rfl)) pa_nil))
            (pe_call GG r1 (by rfl) X.gG X.G.kp X.bG .nil pass0 (pa_cons (pv 4) pa_nil)) (nomark _))))) (pss_one (ps_set (i := 4) scRow.nd rfl (.inl rfl) (pe_call GU rU (by rfl) X.gU X.U.kp X.bU .nil pass0 (pa_cons (pe_ix ix_list (pv 3) (pe_un un_neg pe_int) (fun _ _ => rfl)) (pa_cons (pv 1) pa_nil))))) pss_nil)
        (pss_one (ps_expr (pe_bm PySem.F.plainAttrs_list PySem.F.slot_list_append PySem.F.type_list_append mt_append (pv 3) (pa_cons (pv 4) pa_nil)))))))) 
      (pss_one (ps_ret (pv 3)))), ?_⟩
    refine ⟨(show 0 ≤ sizeLine from by decide), fun F hF => ?_⟩
    have nFp : F ≠ p := hp.ne hF
    refine ⟨fun m' σ H' => ∃ vs' ns y4, m' = many - ns.length ∧ ns.length ≤ many ∧ σ = [some (.ref p), some (.int l), some (.int many), some (.ref F), y4] ∧ H' F = some (.lst vs') ∧ NdsV K H' vs' ns ∧ OkAll ns l ∧ Unb ns ∧ But p H H' ∧ Pot H' p (c + ns.length * cost l),
      ⟨many, [], [], none, rfl, Nat.zero_le _, rfl, upd_same, .nil, by unfold OkAll; trivial, trivial, .new hF, (hp.new hF).le (by simp)⟩, ?_⟩
    rintro m' σ H1 ⟨vs', ns, y4, rfl, hle, rfl, e1, e2, e3, e4, e5, e6⟩
    refine ⟨.ref F, rfl, F, vs', rfl, .inl (.inl (.inl e1)), _, rfl, _, _, rfl, rfl, _, rfl, ite2 (fun e => ?_) (fun e => ?_)⟩
    · have hlt : ns.length < many := by
        have : ((vs'.length : Nat) : Int) < (many : Int) := of_decide_eq_true e
        rw [e2.len] at this
        omega
      have mul : ns.length * cost l ≤ 10 * cost l := Nat.mul_le_mul_right _ (by omega)
      have cp := cost_pos l
      refine ⟨fun σ' H' => ∃ vs' ns' y4, ns'.length = ns.length + 1 ∧ σ' = [some (.ref p), some (.int l), some (.int many), some (.ref F), y4] ∧ H' F = some (.lst vs') ∧ NdsV K H' vs' ns' ∧ OkAll ns' l ∧ Unb ns' ∧ But p H H' ∧ Pot H' p (c + ns'.length * cost l),
        fun σ' H' hN => ?_, ?_⟩
      · obtain ⟨v2, n2, y, k1, k2, k3⟩ := hN
        exact ⟨many - n2.length, by omega, v2, n2, y, rfl, by omega, k2, k3⟩
      -- node = leaf or block
      refine if_any (fun b H' => H1 = H' ∧ (b = true ↔ l = 0)) (fun b H' hS => ?_) (fun R hR => ?_)
      · obtain ⟨rfl, hb⟩ := hS
        refine joinIf (fun v H' => ∃ n, NdV K H' v n ∧ Ok n l ∧ But p H1 H' ∧ Pot H' p (c + ns.length * cost l + cost l)) (fun v H2 hS => ?_) (fun ey R hR => ?_) (fun en R hR => ?_)
        · obtain ⟨n, hn, okn, b2, p2⟩ := hS
          have f2 := b2.at nFp e1
          have d2 : NdsV K H2 vs' ns := e2.up (b2.tupsP e6)
          have bH2 := e5.trans b2
          dsimp only [gName, tSeq]
          refine ifs_any (fun b H' => Same H2 H' ∧ (b = true → ns ≠ []) ∧ (b = false → ∀ x, ns.getLast? = some x → x.base ≠ n.base)) (fun b H3 hS => ?_) (fun R hR => ?_)
          · obtain ⟨s3, nb1, nb2⟩ := hS
            refine joinS (fun σ' H' => ∃ v n', σ' = [some (.ref p), some (.int l), some (.int many), some (.ref F), some v] ∧ NdV K H' v n' ∧ Ok n' l ∧ Same H2 H') (fun σ4 H4 hS4 => ?_) (fun eb N hN => ?_) (fun eb N hN => ?_)
            · obtain ⟨v4, n4, rfl, hn4, ok4, s4⟩ := hS4
              have f4 := s4 _ _ f2
              have d4 : NdsV K H4 vs' ns := d2.up (.of s4)
              dsimp only [tSeq]
              refine ifs_any (fun b H' => Same H2 H' ∧ NdV K H' v4 n4 ∧ (b = true → ns ≠ []) ∧ (b = false → ∀ x, ns.getLast? = some x → x.base ≠ n4.base)) (fun b H5 hS => ?_) (fun R hR => ?_)
              · obtain ⟨s5, hn5, nb3, nb4⟩ := hS
                refine joinS (fun σ' H' => ∃ v n', σ' = [some (.ref p), some (.int l), some (.int many), some (.ref F), some v] ∧ NdV K H' v n' ∧ Ok n' l ∧ Same H2 H' ∧ ∀ x, ns.getLast? = some x → x.base ≠ n'.base) (fun σ6 H6 hS6 => ?_) (fun eb N hN => ?_) (fun eb N hN => ?_)
                · obtain ⟨v6, n6, rfl, hn6, ok6, s6, un6⟩ := hS6
                  have f6 := s6 _ _ f2
                  have d6 : NdsV K H6 vs' ns := d2.up (.of s6)
                  refine ⟨.ref F, rfl, .inl ⟨rfl, _, .inl (.inl f6)⟩, v6, rfl, F, _, _, rfl, rfl, f6, ?_, vs' ++ [v6], ns ++ [n6], some v6, by rw [List.length_append]; rfl, rfl, upd_same, ?_, ?_, unb_app e4 un6, (bH2.trans (Same.but s6)).wr hF, ?_⟩
                  · rw [d6.len]
                    exact line5 (by omega)
                  · have t6 : Tups K H6 (upd H6 F (.lst (vs' ++ [v6]))) := (But.set (p := F)).tups f6
                    exact (d6.up t6).app (.one (hn6.up t6))
                  · exact OkAll.of fun x hx => by
                      rcases List.mem_append.mp hx with hx | hx
                      · exact e3.mem x hx
                      · rw [List.mem_singleton.mp hx]
                        exact ok6
                  · obtain ⟨o, ho, po⟩ := p2
                    refine Pot.oth ⟨o, s6 _ _ ho, po.le ?_⟩ nFp.symm
                    rw [List.length_append, Nat.add_mul]
                    simp
                    omega
                · have hne := nb3 eb
                  rcases List.eq_nil_or_concat ns with rfl | ⟨init, z, rfl⟩
                  · exact absurd rfl hne
                  · rw [List.concat_eq_append] at *
                    have f5 := s5 _ _ f2
                    have d5 : NdsV K H5 vs' (init ++ [z]) := d2.up (.of s5)
                    obtain ⟨u, eu, hz⟩ := d5.last
                    have okz : Ok z l := e3.mem z (by simp)
                    refine ⟨.ref F, rfl, 1, rfl, F, _, -1, u, rfl, rfl, .inl (.inl f5), eu, _, rfl, u, z, l, rfl, l2, l3, hz, okz, fun H' v' n' s' hn' ok' un' => hN _ _ ⟨v', n', rfl, hn', ok', s5.trans s', fun x hx => ?_⟩⟩
                    have : x = z := by
                      rw [List.getLast?_append] at hx
                      simpa using hx.symm
                    rw [this]
                    exact un'.symm
                · exact hN _ _ ⟨v4, n4, rfl, hn5, ok4, s5, nb4 eb⟩
              · exact (by
            refine ⟨.ref F, rfl, (show 0 ≤ sizeLine from by decide), fun l9 hl9 => ⟨_, _, .lst (.inl (.inl ?_)) (d4.up (.of (sameN hl9))), .lst (.inl (.inl upd_same)) .nil, (shaped_all e3 l3).1, shaped_nil, _, rfl, ?_⟩⟩
            · rw [upd_ne (ne_of_none f4 hl9)]
              exact f4
            · rw [eqv_emptyN]
              rcases List.eq_nil_or_concat ns with rfl | ⟨init, z, rfl⟩
              · exact hR _ _ ⟨s4.trans (sameN hl9), hn4.up (.of (sameN hl9)), (fun z => nomatch z), fun _ x hx => nomatch hx⟩
              · rw [List.concat_eq_append] at *
                have z0 : (init ++ [z]).isEmpty = false := by simp
                rw [z0]
                have s9 := sameN (o := .lst []) hl9
                have d9 : NdsV K _ vs' (init ++ [z]) := d4.up (.of s9)
                obtain ⟨u, eu, hz⟩ := d9.last
                have okz : Ok z l := e3.mem z (by simp)
                refine ⟨.ref F, rfl, 1, rfl, F, _, -1, u, rfl, rfl, .inl (.inl (s9 _ _ f4)), eu, u, z, rfl, hz, fun w1 hw1 => ⟨_, rfl, v4, n4, rfl, hn4.up (.of s9), fun w2 hw2 => ⟨_, _, hw1, hw2, shaped_dat okz.base.1 l3, shaped_dat ok4.base.1 l3, _, rfl, hR _ _ ⟨s4.trans s9, hn4.up (.of s9), fun _ => by simp, fun eb x hx => by
                  have : x = z := by
                    rw [List.getLast?_append] at hx
                    simpa using hx.symm
                  rw [this]
                  intro eq
                  rw [eqv_yes eq] at eb
                  cases eb⟩⟩⟩⟩)
            · have hne := nb1 eb
              obtain ⟨x0, hx0⟩ := get_of (l := ns) (i := 0) (List.length_pos_iff.mpr hne)
              have f3 := s3 _ _ f2
              have d3 : NdsV K H3 vs' ns := d2.up (.of s3)
              obtain ⟨u, hu, k⟩ := d3.at hx0
              refine ⟨.ref F, rfl, F, _, 0, u, rfl, rfl, .inl (.inl f3), atI_nat (j := 0) hu, hN _ _ ⟨u, x0, rfl, k, e3.mem x0 (List.mem_of_getElem? hx0), s3⟩⟩
            · exact hN _ _ ⟨v, n, rfl, hn.up (.of s3), okn, s3⟩
          · exact (by
            refine ⟨.ref F, rfl, (show 0 ≤ sizeLine from by decide), fun l9 hl9 => ⟨_, _, .lst (.inl (.inl ?_)) (d2.up (.of (sameN hl9))), .lst (.inl (.inl upd_same)) .nil, (shaped_all e3 l3).1, shaped_nil, _, rfl, ?_⟩⟩
            · rw [upd_ne (ne_of_none f2 hl9)]
              exact f2
            · rw [eqv_emptyN]
              rcases List.eq_nil_or_concat ns with rfl | ⟨init, z, rfl⟩
              · exact hR _ _ ⟨sameN hl9, (fun z => nomatch z), fun _ x hx => nomatch hx⟩
              · rw [List.concat_eq_append] at *
                have z0 : (init ++ [z]).isEmpty = false := by simp
                rw [z0]
                have s9 := sameN (o := .lst []) hl9
                have d9 : NdsV K _ vs' (init ++ [z]) := d2.up (.of s9)
                obtain ⟨u, eu, hz⟩ := d9.last
                have okz : Ok z l := e3.mem z (by simp)
                refine ⟨.ref F, rfl, 1, rfl, F, _, -1, u, rfl, rfl, .inl (.inl (s9 _ _ f2)), eu, u, z, rfl, hz, fun w1 hw1 => ⟨_, rfl, v, n, rfl, hn.up (.of s9), fun w2 hw2 => ⟨_, _, hw1, hw2, shaped_dat okz.base.1 l3, shaped_dat okn.base.1 l3, _, rfl, hR _ _ ⟨s9, fun _ => by simp, fun eb x hx => by
                  have : x = z := by
                    rw [List.getLast?_append] at hx
                    simpa using hx.symm
                  rw [this]
                  intro eq
                  rw [eqv_yes eq] at eb
                  cases eb⟩⟩⟩⟩)
        · have l0 := hb.mp ey
          subst l0
          refine ⟨.ref p, rfl, p, _, rfl, e6, by omega, fun v n H' b' p' hn okn => hR _ _ ⟨n, hn, okn, b', p'.le (by omega)⟩⟩
        · have l0 : l ≠ 0 := fun z => by
            rw [hb.mpr z] at en
            cases en
          refine ⟨.ref p, rfl, _, rfl, p, l, _, rfl, by omega, l2, l3, e6, by omega, fun H' v n b' hn okn p' => hR _ _ ⟨n, hn, okn, b', p'⟩⟩
      · refine ⟨_, rfl, rfl, _, rfl, hR _ _ ⟨rfl, ?_⟩⟩
        rw [decide_eq_true_iff]
        constructor
        · intro z
          have := V.int.inj z
          omega
        · rintro rfl
          rfl
    · have heq : ns.length = many := by
        have : ¬ ((vs'.length : Nat) : Int) < (many : Int) := fun z => e (decide_eq_true z)
        rw [e2.len] at this
        omega
      rw [heq] at e6
      exact ⟨_, rfl, q _ F vs' ns e5 hF e1 e2 e3 e4 heq e6⟩
end
section
variable {P : Program} {w : World} {K : PySem.W.Frag} {mg : Str → Option Value} {base : Heap}
variable {fT fO fG fL fR fB fW fU : Addr} {dT dO dG dL dR dB dW dU : FuncData}
theorem gen_row (X : GenF K mg fT fO fG fL fR fB fW fU dT dO dG dL dR dB dW dU) : ∀ m : Nat, FnOk P w K mg base CX0 (2 * m + 3) fR dR ["pot", "level", "many"] (spRow K m)
  | 0 => ⟨fun vs H Q E h => by obtain ⟨p, z, l, many, c, _, _, h, _⟩ := h; exact absurd h (Nat.not_lt_zero _), fun A outer s H args us vs Q E _ _ _ _ h => by obtain ⟨p, z, l, many, c, _, _, h, _⟩ := h; exact absurd h (Nat.not_lt_zero _)⟩
  | m + 1 => ok_row X (by omega) (by omega) (ok_block X (by omega) (gen_row X m))
theorem scPool : FnScope ["pot", "level", "found", "node", "one"] ["pot", "level"] (defScope sPool) := ⟨rfl, rfl, rfl, by decide +kernel, rfl, by decide +kernel, by decide +kernel⟩
/-- unlike bases, everywhere -/
def spPool (K : PySem.W.Frag) (m : Nat) : Sp := fun vs H Q _ => ∃ (p : Addr) (z : Int) (l c : Nat), vs = [.ref p, .int z] ∧ z = l ∧ l < m ∧ l ≤ 20 ∧ Pot H p c ∧ c + 20 * cost l < 900000 ∧
  ∀ H' a vs' ns, But p H H' → H' a = some (.lst vs') → NdsV K H' vs' ns → OkAll ns l → (ns.map Nd.base).Nodup → 2 ≤ ns.length → ns.length ≤ 9 → Pot H' p (c + 10 * cost l) → Q (.ref a) H'
theorem ok_pool (X : GenF K mg fT fO fG fL fR fB fW fU dT dO dG dL dR dB dW dU) {f : Addr} {fd : FuncData} {m : Nat} (F : Fun K "_law_pool" "_law_pool" sPool f fd) (mlist : mg "list" = none) (many : mg "any" = none) :
    FnOk P w K mg base CX0 (2 * m + 4) f fd ["pot", "level"] (spPool K m) := by
  have GR : FnOk P w K mg base CX0 (2 * m + 3) fR dR ["pot", "level", "many"] (spRow K m) := gen_row X m
  have GW : FnOk P w K mg base CX0 (m + 1) fW dW ["level"] (spTwins K m) := ok_twins X.W X.gW X.bW m
  have GG : FnOk P w K mg base CX0 1 fG dG ["node"] (spGround K) := ok_ground X.G X.isinstance X.tuple
  refine F.ok scPool (fun vs H Q E h => ?_) (fun cdv A outer s H vs Q E hr h => ?_)
  · obtain ⟨p, z, l, c, rfl, _⟩ := h
    rfl
  · obtain ⟨p, z, l, c, rfl, rfl, l2, l3, hp, hc, q⟩ := h
    have r1 := hr.mono (j := 1) (by omega)
    have rW := hr.mono (j := m + 1) (by omega)
    refine ⟨_, pss_cons (ps_set (i := 2) scPool.nd rfl (.inl rfl) (pe_lst pa_nil))
      (pss_cons (ps_for PassesOwn.never rfl (pi_list (pe_op op_cat (pe_call GR hr (by rfl) X.gR X.R.kp X.bR .nil pass0 (pa_cons (pv 0) (pa_cons (pv 1) (pa_cons pe_int pa_nil))))
          (pe_callTy call_list_of (by rfl) mlist PyProof.Rows.boot_list (pa_cons (pe_call GW rW (by rfl) X.gW X.W.kp X.bW .nil pass0 (pa_cons (pv 1) pa_nil)) pa_nil)))) (pg_name (i := 3) scPool.nd rfl (.inr rfl))
        (pss_one (ps_if (pt_not (pt_val (pe_callB (cr_any rfl) (by rfl) many PyProof.Rows.boot_any (pa_cons
            (pe_lc (own := [("one", 4)]) (g := gName 4) (tt := tYes) (te := tOp (rEqD K) (tCall (spGround K) [] E0 (tCons (tVar 3) tNil)) (tCall (spGround K) [] E0 (tCons (tVar 4) tNil))) rfl scPool.nd (pi_list (pv 2)) (blkOk_by (N := ["pot", "level", "found", "node", "one"]) (sc := defScope sPool) (by decide +kernel))
              (fun _ _ _ _ _ => pg_name (i := 4) scPool.nd rfl (Or.inl rfl)) (fun _ _ _ _ _ => pts_nil)
              (fun _ _ _ _ _ => pe_cmpR (op_eqD hr.units) (pe_call GG r1 (by rfl) X.gG X.G.kp X.bG .nil pass0 (pa_cons (pv 3) pa_nil)) (pe_call GG r1 (by rfl) X.gG X.G.kp X.bG .nil pass0 (pa_cons (pv 4) pa_nil)) (nomark _))) pa_nil))))
          (pss_one (ps_expr (pe_bm PySem.F.plainAttrs_list PySem.F.slot_list_append PySem.F.type_list_append mt_append (pv 2) (pa_cons (pv 3) pa_nil)))) pss_nil)))
      (pss_one (ps_ret (pv 2)))), ?_⟩
    refine ⟨(show 0 ≤ sizeLine from by decide), fun F0 hF => ?_⟩
    have nFp : F0 ≠ p := hp.ne hF
    refine ⟨.ref p, rfl, _, rfl, p, l, l, 7, c, rfl, rfl, l2, l3, by omega, hp.new hF, by omega, fun H1 a vs1 ns1 b1 na1 ha1 d1 ok1 un1 len1 p1 => ?_⟩
    have f1 := b1.at nFp upd_same
    refine ⟨_, rfl, l, l, rfl, rfl, l2, fun H2 t v1 v2 s2 ht k1 k2 => ⟨t, _, rfl, .inr (.inl (.inl ht)), fun l3' hl3' => ?_⟩⟩
    have f2 := s2 _ _ f1
    have a2 := s2 _ _ ha1
    have s3 := sameN (o := .lst [v1, v2]) hl3'
    refine ⟨a, l3', vs1, [v1, v2], rfl, rfl, s3 _ _ a2, upd_same, ?_, fun LL nLL => ⟨LL, rfl, ⟨_, .inl (.inl upd_same)⟩, ?_⟩⟩
    · rw [d1.len, len1]
      exact (show 7 + 2 ≤ sizeLine from by decide)
    have s4 := sameN (o := .lst (vs1 ++ [v1, v2])) nLL
    have s24 := s3.trans s4
    have f4 := s24 _ _ f2
    obtain ⟨o1, o2, o3, o4, o5⟩ := tw_ok l
    have dAll : NdsV K (upd (upd H2 l3' (.lst [v1, v2])) LL (.lst (vs1 ++ [v1, v2]))) (vs1 ++ [v1, v2]) (ns1 ++ [(tw l).1, (tw l).2]) :=
      (d1.up (.of (s2.trans s24))).app (.cons (k1.up (.of s24)) (.cons (k2.up (.of s24)) .nil))
    have hLL : (upd (upd H2 l3' (.lst [v1, v2])) LL (.lst (vs1 ++ [v1, v2]))) LL = some (.lst (vs1 ++ [v1, v2])) := upd_same
    have b4 : But p H (upd (upd H2 l3' (.lst [v1, v2])) LL (.lst (vs1 ++ [v1, v2]))) := ((But.new hF).trans b1).trans (Same.but (s2.trans s24))
    have p4 : Pot (upd (upd H2 l3' (.lst [v1, v2])) LL (.lst (vs1 ++ [v1, v2]))) p (c + 7 * cost l) := by
      obtain ⟨o, ho, po⟩ := p1
      exact ⟨o, s24 _ _ (s2 _ _ ho), po⟩
    have nLF : LL ≠ F0 := fun z => by
      rw [z, s3 _ _ f2] at nLL
      cases nLL
    generalize upd (upd H2 l3' (.lst [v1, v2])) LL (.lst (vs1 ++ [v1, v2])) = H4 at dAll hLL b4 p4 f4 ⊢
    have okAll : OkAll (ns1 ++ [(tw l).1, (tw l).2]) l := OkAll.of fun n hn => by
      rcases List.mem_append.mp hn with hn | hn
      · exact ok1.mem n hn
      rcases List.mem_cons.mp hn with rfl | hn
      · exact o1
      · rw [List.mem_singleton.mp hn]
        exact o2
    have lenAll : (vs1 ++ [v1, v2]).length = 9 := by
      rw [List.length_append, d1.len, len1]
      rfl
    refine for_list (xs := vs1 ++ [v1, v2]) (fun i σ H' => ∃ y3 y4 vs' fs, σ = [some (.ref p), some (.int l), some (.ref F0), y3, y4] ∧ H' F0 = some (.lst vs') ∧ NdsV K H' vs' fs ∧ OkAll fs l ∧ (fs.map Nd.base).Nodup ∧ fs.length ≤ i ∧
        (∀ n ∈ (ns1 ++ [(tw l).1, (tw l).2]).take i, n.base ∈ fs.map Nd.base) ∧ But F0 H4 H')
      ⟨none, none, [], [], rfl, f4, .nil, by unfold OkAll; trivial, List.nodup_nil, Nat.zero_le _, (fun n hn => by simp at hn), .refl F0 H4⟩ (fun i σ H' _ hp => ?_) (fun i x σ H5 hx hp => ?_) (fun σ H' hp => ?_)
    · obtain ⟨_, _, _, _, _, _, _, _, _, _, _, e⟩ := hp
      exact .inl (.inl (e.at nLF hLL))
    · obtain ⟨y3, y4, vs', fs, rfl, e1, e2, e3, e4, e5, e6, e7⟩ := hp
      have tp5 : Tups K H4 H5 := e7.tups f4
      obtain ⟨n, hn, kn⟩ := (dAll.up tp5).get hx
      have okn : Ok n l := okAll.mem n (List.mem_of_getElem? hn)
      have hi9 : i < 9 := by
        have := (List.getElem?_eq_some_iff.mp hx).1
        omega
      have tk : (ns1 ++ [(tw l).1, (tw l).2]).take (i + 1) = (ns1 ++ [(tw l).1, (tw l).2]).take i ++ [n] := take_more hn
      refine ifs_any (fun b H' => Same H5 H' ∧ (b = true ↔ n.base ∉ fs.map Nd.base)) (fun b H6 hS => ?_) (fun R hR => ?_)
      · obtain ⟨s6, hb⟩ := hS
        have f6 := s6 _ _ e1
        have d6 : NdsV K H6 vs' fs := e2.up (.of s6)
        cases b with
        | true =>
          have hnb := hb.mp rfl
          refine ⟨.ref F0, rfl, .inl ⟨rfl, _, .inl (.inl f6)⟩, x, rfl, F0, _, _, rfl, rfl, f6, ?_, _, _, vs' ++ [x], fs ++ [n], rfl, upd_same, ?_, ?_, ?_, ?_, fun n' hn' => ?_, (e7.trans (Same.but s6)).trans .set⟩
          · rw [d6.len]
            exact line5 (by omega)
          · have t7 : Tups K H6 (upd H6 F0 (.lst (vs' ++ [x]))) := (But.set (p := F0)).tups f6
            exact (d6.up t7).app (.one ((kn.up (.of s6)).up t7))
          · exact OkAll.of fun y hy => by
              rcases List.mem_append.mp hy with hy | hy
              · exact e3.mem y hy
              · rw [List.mem_singleton.mp hy]
                exact okn
          · rw [List.map_append, List.nodup_append]
            refine ⟨e4, by simp, fun a ha b hb' => ?_⟩
            have : b = n.base := by simpa using hb'
            rw [this]
            intro z
            rw [z] at ha
            exact hnb ha
          · rw [List.length_append]
            simp
            omega
          · rw [tk] at hn'
            rw [List.map_append]
            rcases List.mem_append.mp hn' with hn' | hn'
            · exact List.mem_append_left _ (e6 n' hn')
            · rw [List.mem_singleton.mp hn']
              exact List.mem_append_right _ (by simp)
        | false =>
          have hnb : n.base ∈ fs.map Nd.base := Classical.byContradiction fun z => by
            have := hb.mpr z
            cases this
          refine ⟨_, _, vs', fs, rfl, f6, d6, e3, e4, by omega, fun n' hn' => ?_, e7.trans (Same.but s6)⟩
          rw [tk] at hn'
          rcases List.mem_append.mp hn' with hn' | hn'
          · exact e6 n' hn'
          · rw [List.mem_singleton.mp hn']
            exact hnb
      · refine ⟨.ref F0, rfl, F0, rfl, ⟨_, .inl (.inl e1)⟩, fun D nD => ?_⟩
        refine lc_list (xs := vs') (fun i H' => ∃ bs : List Bool, bs.length = i ∧ H' D = some (.lst (bs.map V.bl)) ∧ Same H5 H' ∧ ∀ (j : Nat) b (y : Nd), bs[j]? = some b → fs[j]? = some y → (b = true ↔ n.base = y.base))
          ⟨[], rfl, upd_same, sameN nD, fun j b y hj => by simp at hj⟩ (fun i H' _ hp => ?_) (fun i u H' hu hp => ?_) (fun H' hp => ?_)
        · obtain ⟨bs, _, _, s7, _⟩ := hp
          exact .inl (.inl (s7 _ _ e1))
        · obtain ⟨bs, g1, g2, s7, g3⟩ := hp
          obtain ⟨y, hy, ky⟩ := (e2.up (.of s7)).get hu
          have oky : Ok y l := e3.mem y (List.mem_of_getElem? hy)
          have hif : i < fs.length := (List.getElem?_eq_some_iff.mp hy).1
          refine ⟨rfl, x, rfl, x, n, rfl, kn.up (.of s7), fun w1 hw1 => ⟨u, rfl, u, y, rfl, ky, fun w2 hw2 => ⟨_, _, hw1, hw2, shaped_dat okn.base.1 l3, shaped_dat oky.base.1 l3, bs.map V.bl, g2, ?_, bs ++ [PyData.eqv (dat n.base) (dat y.base)], by rw [List.length_append, g1]; rfl, ?_, sameW s7 nD, fun j b z hj hz => ?_⟩⟩⟩
          · rw [List.length_map, g1]
            exact line5 (by omega)
          · rw [upd_same, List.map_append]
            rfl
          · by_cases cj : j < bs.length
            · rw [List.getElem?_append_left cj] at hj
              exact g3 j b z hj hz
            · rw [List.getElem?_append_right (by omega)] at hj
              have c0 : j - bs.length = 0 := by
                rcases Nat.eq_zero_or_pos (j - bs.length) with z' | z'
                · exact z'
                · rw [List.getElem?_eq_none_iff.mpr (by simp; omega)] at hj
                  cases hj
              rw [c0] at hj
              have eb := Option.some.inj hj
              have ej : j = i := by omega
              subst ej
              rw [hy] at hz
              cases hz
              rw [← eb]
              exact eqv_dat _ _
        · obtain ⟨bs, g1, g2, s7, g3⟩ := hp
          rw [e2.len] at g1
          refine ⟨D, bs, rfl, .inl (.inl g2), _, rfl, hR _ _ ⟨s7, ?_⟩⟩
          rw [Bool.not_eq_true', ← Bool.not_eq_true, List.any_eq_true]
          refine not_congr ⟨?_, ?_⟩
          · rintro ⟨b, hb, hb'⟩
            have hb' : b = true := hb'
            obtain ⟨j, hj⟩ := List.getElem?_of_mem hb
            obtain ⟨y, hy⟩ := get_of (l := fs) (i := j) (by have := (List.getElem?_eq_some_iff.mp hj).1; omega)
            exact List.mem_map.mpr ⟨y, List.mem_of_getElem? hy, ((g3 j b y hj hy).mp hb').symm⟩
          · intro hm
            obtain ⟨y, hy, e⟩ := List.mem_map.mp hm
            obtain ⟨j, hj⟩ := List.getElem?_of_mem hy
            obtain ⟨b, hb⟩ := get_of (l := bs) (i := j) (by have := (List.getElem?_eq_some_iff.mp hj).1; omega)
            exact ⟨b, List.mem_of_getElem? hb, (g3 j b y hb hj).mpr e.symm⟩
    · obtain ⟨y3, y4, vs', fs, rfl, e1, e2, e3, e4, e5, e6, e7⟩ := hp
      rw [lenAll] at e5 e6
      have full : (ns1 ++ [(tw l).1, (tw l).2]).take 9 = ns1 ++ [(tw l).1, (tw l).2] := List.take_of_length_le (by rw [List.length_append, len1]; exact Nat.le_refl 9)
      rw [full] at e6
      have m1 := e6 (tw l).1 (by simp)
      have m2 := e6 (tw l).2 (by simp)
      rw [base_of_no o4] at m1
      rw [base_of_no o5] at m2
      have two : 2 ≤ fs.length := by
        rcases Nat.lt_or_ge fs.length 2 with z | z
        · exfalso
          match fs, z with
          | [], _ => exact nomatch m1
          | [y], _ =>
            have a1 : (tw l).1 = y.base := by simpa using m1
            have a2 : (tw l).2 = y.base := by simpa using m2
            exact o3 (a1.trans a2.symm)
        · exact z
      have cp := cost_pos l
      refine ⟨_, rfl, q H' F0 vs' fs ?_ e1 e2 e3 e4 two e5 ?_⟩
      · exact fun b o nb hb => e7 b o (ne_of_none hb hF) (b4 b o nb hb)
      · obtain ⟨o, ho, po⟩ := p4
        exact ⟨o, e7 _ _ nFp.symm ho, po.le (by omega)⟩
end
end C05

set_option Elab.async false
set_option linter.all false
set_option maxRecDepth 100000
namespace C05
open PySem PySem.Spec PyProof.Rows L2 Loc
/-! ### made_runs and the law's own joining -/
section
variable {P : Program} {w : World} {K : PySem.W.Frag} {mg : Str → Option Value} {base : Heap}
theorem scRunOf : FnScope ["node", "count"] ["node", "count"] (defScope sRunOf) := ⟨rfl, rfl, rfl, by decide +kernel, rfl, by decide +kernel, by decide +kernel⟩
theorem scMade : FnScope ["nodes", "made", "begin", "end"] ["nodes"] (defScope sMade) := ⟨rfl, rfl, rfl, by decide +kernel, rfl, by decide +kernel, by decide +kernel⟩
def spRunOf (K : PySem.W.Frag) : Sp := fun vs H Q _ => ∃ (v : V) (n : Nd) (z : Int) (c : Nat), vs = [v, .int z] ∧ z = c ∧ NdV K H v n ∧ ∀ H' u, Same H H' → NdV K H' u (mkRun (n, c)) → Q u H'
theorem ok_runof {f : Addr} {fd : FuncData} {k : Nat} (F : Fun K "run_of" "run_of" sRunOf f fd) : FnOk P w K mg base CX0 (k + 1) f fd ["node", "count"] (spRunOf K) := by
  refine F.ok scRunOf (fun vs H Q E h => ?_) (fun cdv A outer s H vs Q E hr h => ?_)
  · obtain ⟨v, n, z, c, rfl, _⟩ := h
    rfl
  · obtain ⟨v, n, z, c, rfl, rfl, hn, q⟩ := h
    refine ⟨_, pss_cons (ps_if (pt_cmpR op_eq (pv 1) pe_int (nomark _)) (pss_one (ps_ret (pv 0))) pss_nil) (pss_one (ps_ret (pe_tup (pa_cons pe_str (pa_cons (pv 0) (pa_cons (pv 1) pa_nil)))))), ?_⟩
    refine ⟨_, rfl, rfl, _, rfl, ite2 (fun e => ?_) (fun e => ?_)⟩
    · have e0 : (c : Int) = 1 := V.int.inj (of_decide_eq_true e)
      have e1 : c = 1 := by omega
      refine ⟨v, rfl, q H v (Same.refl H) ?_⟩
      unfold mkRun
      rw [if_pos e1]
      exact hn
    · have e1 : c ≠ 1 := fun z => e (by rw [z]; rfl)
      refine ⟨v, rfl, _, rfl, (show 3 ≤ sizeLine from by decide), fun p hp => q _ _ (sameN hp) ?_⟩
      unfold mkRun
      rw [if_neg e1]
      exact .ofRun (.inl (.inl upd_same)) (hn.up (.of (sameN hp)))
def spMade (K : PySem.W.Frag) : Sp := fun vs H Q _ => ∃ (a : Addr) (us : List V) (ns : List Nd) (l : Nat), vs = [.ref a] ∧ SqT K H a us ∧ NdsV K H us ns ∧ OkAll ns l ∧ l ≤ 20 ∧ ns.length ≤ 100000 ∧
  ∀ H' p ws, Same H H' → H' p = some (.tup ws) → NdsV K H' ws (mkRuns ns) → Q (.ref p) H'
theorem grp_take {ns : List Nd} {b e : Nat} {x : Nd} (hbe : b < e) (he : e ≤ ns.length) (h : ∀ j, b ≤ j → j < e → ns[j]? = some x) (hl : (ns.take b).getLast? ≠ some x) : grp (ns.take e) = grp (ns.take b) ++ [(x, e - b)] := by
  have : ns.take e = ns.take b ++ List.replicate ((e - b - 1) + 1) x := by
    refine List.ext_getElem? fun j => ?_
    rw [List.getElem?_append, List.getElem?_take, List.getElem?_take, List.length_take, List.getElem?_replicate]
    rcases Nat.lt_or_ge j b with c | c
    · rw [if_pos (by omega), if_pos (by omega), if_pos c]
    · rw [if_neg (show ¬ j < min b ns.length by omega)]
      rcases Nat.lt_or_ge j e with c2 | c2
      · rw [if_pos c2, if_pos (by omega), h j c c2]
      · rw [if_neg (by omega), if_neg (by omega)]
  rw [this, grp_rep _ _ hl]
  congr 3
  omega
theorem ok_made {f g : Addr} {fd gd : FuncData} {k : Nat} (F : Fun K "made_runs" "made_runs" sMade f fd) (R : Fun K "run_of" "run_of" sRunOf g gd) (gR : mg "run_of" = some (.ref g)) (bR : Binds K gd ["node", "count"] [])
    (ml : mg "len" = none) (mt : mg "tuple" = none) : FnOk P w K mg base CX0 (k + 2) f fd ["nodes"] (spMade K) := by
  have GR : FnOk P w K mg base CX0 (k + 1) g gd ["node", "count"] (spRunOf K) := ok_runof R
  refine F.ok scMade (fun vs H Q E h => ?_) (fun cdv A outer s H vs Q E hr h => ?_)
  · obtain ⟨a, us, ns, l, rfl, _⟩ := h
    rfl
  · obtain ⟨a, us, ns, l, rfl, hS, hn, ok, l20, hlen, q⟩ := h
    refine ⟨_, pss_cons (ps_set (i := 1) scMade.nd rfl (.inl rfl) (pe_lst pa_nil))
      (pss_cons (ps_set (i := 2) scMade.nd rfl (.inl rfl) pe_int)
      (pss_cons (ps_while PassesOwn.never (pt_cmpR op_lt (pv 2) (pe_callB call_len_seq (by rfl) ml PySem.boot_len (pa_cons (pv 0) pa_nil)) (nomark _))
        (pss_cons (ps_set (i := 3) scMade.nd rfl (.inl rfl) (pe_op op_add (pv 2) pe_int))
        (pss_cons (ps_while PassesOwn.never (PW.pt (pw_and (pt_cmpR op_lt (pv 3) (pe_callB call_len_seq (by rfl) ml PySem.boot_len (pa_cons (pv 0) pa_nil)) (nomark _))
            (pw_and1 (pt_cmpR (op_eqD hr.units) (pe_ix ix_tup (pv 0) (pv 3) (fun _ _ => rfl)) (pe_ix ix_tup (pv 0) (pv 2) (fun _ _ => rfl)) (nomark _)))))
          (pss_one (ps_aug (i := 3) scMade.nd rfl (.inl rfl) pe_int ip_add)))
        (pss_cons (ps_expr (pe_bm PySem.F.plainAttrs_list PySem.F.slot_list_append PySem.F.type_list_append mt_append (pv 1)
            (pa_cons (pe_call GR hr (by rfl) gR R.kp bR .nil pass0 (pa_cons (pe_ix ix_tup (pv 0) (pv 2) (fun _ _ => rfl)) (pa_cons (pe_op op_sub (pv 3) (pv 2)) pa_nil))) pa_nil)))
        (pss_one (ps_set (i := 2) scMade.nd rfl (.inl rfl) (pv 3)))))))
      (pss_one (ps_ret (pe_callTy call_tuple_of (by rfl) mt PyProof.Rows.boot_tuple (pa_cons (pv 1) pa_nil)))))), ?_⟩
    refine ⟨(show 0 ≤ sizeLine from by decide), fun M hM => ?_⟩
    refine ⟨fun m σ H' => ∃ (b : Nat) (ws : List V) (y3 : Option V), m = ns.length - b ∧ b ≤ ns.length ∧ σ = [some (.ref a), some (.ref M), some (.int b), y3] ∧ H' M = some (.lst ws) ∧ NdsV K H' ws (mkRuns (ns.take b)) ∧ Same H H' ∧
        (∀ x, ns[b]? = some x → (ns.take b).getLast? ≠ some x), ⟨ns.length, 0, [], none, rfl, Nat.zero_le _, rfl, upd_same, ?_, sameN hM, fun x _ => by simp⟩, ?_⟩
    · rw [List.take_zero]
      exact .nil
    rintro m σ H1 ⟨b, ws, y3, rfl, hb, rfl, e1, e2, s1, bd⟩
    have hS1 := sameT s1 hS
    have hn1 : NdsV K H1 us ns := hn.up (.of s1)
    have hlu := hn.len
    refine ⟨_, rfl, .ref a, rfl, a, us, rfl, .inr hS1, _, _, rfl, rfl, _, rfl, ite2 (fun e => ?_) (fun e => ?_)⟩
    · have hlt : b < ns.length := by
        have : (b : Int) < ((us.length : Nat) : Int) := of_decide_eq_true e
        omega
      obtain ⟨x, hx⟩ := get_of hlt
      obtain ⟨vx, hvx, kx⟩ := hn1.at hx
      have okx := ok.mem x (List.mem_of_getElem? hx)
      refine ⟨fun σ' H' => ∃ (b' : Nat) (ws : List V) (y3 : Option V), b < b' ∧ b' ≤ ns.length ∧ σ' = [some (.ref a), some (.ref M), some (.int b'), y3] ∧ H' M = some (.lst ws) ∧ NdsV K H' ws (mkRuns (ns.take b')) ∧ Same H H' ∧ (∀ x, ns[b']? = some x → (ns.take b').getLast? ≠ some x),
        fun σ' H' hN => ?_, ?_⟩
      · obtain ⟨b', w', y, k1, k2, k3⟩ := hN
        exact ⟨ns.length - b', by omega, b', w', y, rfl, k2, k3⟩
      refine ⟨_, rfl, _, 1, rfl, rfl, ?_⟩
      refine ⟨fun m σ H' => ∃ e : Nat, m = ns.length - e ∧ b < e ∧ e ≤ ns.length ∧ σ = [some (.ref a), some (.ref M), some (.int b), some (.int e)] ∧ H' = H1 ∧ ∀ j, b ≤ j → j < e → ns[j]? = some x,
        ⟨_, b + 1, rfl, by omega, hlt, ?_, rfl, fun j j1 j2 => by rw [show j = b by omega]; exact hx⟩, ?_⟩
      · show _ = [some (V.ref a), some (V.ref M), some (V.int b), some (V.int ((b + 1 : Nat) : Int))]
        rw [Int.natCast_add]
        rfl
      rintro m σ Hc ⟨e', rfl, be, he, rfl, rfl, hj⟩
      refine ⟨_, rfl, .ref a, rfl, a, us, rfl, .inr hS1, _, _, rfl, rfl, _, rfl, ?_⟩
      by_cases c : e' < ns.length
      · have d1 : decide ((e' : Int) < ((us.length : Nat) : Int)) = true := decide_eq_true (by omega)
        rw [d1]
        obtain ⟨y, hy⟩ := get_of c
        obtain ⟨vy, hvy, ky⟩ := hn1.at hy
        have oky := ok.mem y (List.mem_of_getElem? hy)
        refine ⟨.ref a, rfl, _, rfl, a, us, _, vy, rfl, rfl, hS1, atI_nat hvy, .ref a, rfl, _, rfl, a, us, _, vx, rfl, rfl, hS1, atI_nat hvx, _, _, ky, kx, shaped_dat oky l20, shaped_dat okx l20, _, rfl, ?_⟩
        by_cases eq : y = x
        · rw [eqv_yes eq]
          refine ⟨fun σ' H' => σ' = [some (.ref a), some (.ref M), some (.int b), some (.int ((e' + 1 : Nat) : Int))] ∧ H' = Hc, fun σ' H' hN => ⟨ns.length - (e' + 1), by omega, e' + 1, rfl, by omega, c, hN.1, hN.2, fun j j1 j2 => ?_⟩, ?_⟩
          · rcases Nat.lt_or_ge j e' with z | z
            · exact hj j j1 z
            · rw [show j = e' by omega, hy, eq]
          · refine ⟨_, rfl, e', 1, rfl, rfl, ?_, rfl⟩
            rw [Int.natCast_add]
            rfl
        · rw [eqv_no eq]
          have gt := grp_take be he hj (bd x hx)
          refine ⟨.ref M, rfl, .inl ⟨rfl, _, .inl (.inl e1)⟩, .ref a, rfl, _, rfl, a, us, _, vx, rfl, rfl, hS1, atI_nat hvx, _, rfl, _, rfl, _, _, rfl, rfl, vx, x, _, e' - b, rfl, by omega, kx, fun H2 u s2 hu => ⟨M, _, _, rfl, rfl, s2 _ _ e1, ?_, _, rfl, e', ws ++ [u], some (.int e'), be, he, rfl, upd_same, ?_, sameW (s1.trans s2) hM, fun z hz => ?_⟩⟩
          · rw [e2.len]
            refine line5 ?_
            have g1 := grp_len (ns.take b)
            show ((grp (ns.take b)).map mkRun).length ≤ 100000
            rw [List.length_map]
            rw [List.length_take] at g1
            omega
          · have : mkRuns (ns.take e') = mkRuns (ns.take b) ++ [mkRun (x, e' - b)] := by
              unfold mkRuns
              rw [gt, List.map_append]
              rfl
            rw [this]
            have t2 : Tups K H2 (upd H2 M (.lst (ws ++ [u]))) := (But.set (p := M)).tups (s2 _ _ e1)
            exact ((e2.up (.of s2)).up t2).app (.one (hu.up t2))
          · rw [hy] at hz
            cases hz
            have : (ns.take e').getLast? = some x := by
              rw [List.getLast?_eq_getElem?, List.length_take, List.getElem?_take, if_pos (by omega), show min e' ns.length - 1 = e' - 1 by omega]
              exact hj (e' - 1) (by omega) (by omega)
            rw [this]
            intro z
            exact eq (Option.some.inj z).symm
      · have d1 : decide ((e' : Int) < ((us.length : Nat) : Int)) = false := decide_eq_false (by omega)
        rw [d1]
        have gt := grp_take be he hj (bd x hx)
        refine ⟨.ref M, rfl, .inl ⟨rfl, _, .inl (.inl e1)⟩, .ref a, rfl, _, rfl, a, us, _, vx, rfl, rfl, hS1, atI_nat hvx, _, rfl, _, rfl, _, _, rfl, rfl, vx, x, _, e' - b, rfl, by omega, kx, fun H2 u s2 hu => ⟨M, _, _, rfl, rfl, s2 _ _ e1, ?_, _, rfl, e', ws ++ [u], some (.int e'), be, he, rfl, upd_same, ?_, sameW (s1.trans s2) hM, fun z hz => ?_⟩⟩
        · rw [e2.len]
          refine line5 ?_
          have g1 := grp_len (ns.take b)
          show ((grp (ns.take b)).map mkRun).length ≤ 100000
          rw [List.length_map]
          rw [List.length_take] at g1
          omega
        · have : mkRuns (ns.take e') = mkRuns (ns.take b) ++ [mkRun (x, e' - b)] := by
            unfold mkRuns
            rw [gt, List.map_append]
            rfl
          rw [this]
          have t2 : Tups K H2 (upd H2 M (.lst (ws ++ [u]))) := (But.set (p := M)).tups (s2 _ _ e1)
          exact ((e2.up (.of s2)).up t2).app (.one (hu.up t2))
        · rw [List.getElem?_eq_none_iff.mpr (by omega)] at hz
          cases hz
    · have hb' : b = ns.length := by
        have : ¬ (b : Int) < ((us.length : Nat) : Int) := fun z => e (decide_eq_true z)
        omega
      rw [hb', List.take_length] at e2
      refine ⟨.ref M, rfl, M, _, rfl, .inl ⟨.inl (.inl e1), fun t ht => q _ t _ (s1.trans (sameN ht)) upd_same (e2.up (.of (sameN ht)))⟩⟩
end
end C05

set_option Elab.async false
set_option linter.all false
set_option maxRecDepth 100000
namespace C05
open PySem PySem.Spec PyProof.Rows L2 Loc
section
variable {P : Program} {w : World} {K : PySem.W.Frag} {mg : Str → Option Value} {base : Heap}
theorem scJoined : FnScope ["nodes", "found", "node", "count"] ["nodes"] (defScope sJoined) := ⟨rfl, rfl, rfl, by decide +kernel, rfl, by decide +kernel, by decide +kernel⟩
def spJoined (K : PySem.W.Frag) : Sp := fun vs H Q _ => ∃ (a : Addr) (us : List V) (ns : List Nd) (l : Nat), vs = [.ref a] ∧ SqL K H a us ∧ NdsV K H us ns ∧ OkAll ns l ∧ l ≤ 20 ∧ ns.length ≤ 100000 ∧
  ∀ H' p ws, Same H H' → H' p = some (.lst ws) → NdsV K H' ws (mkRuns ns) → Q (.ref p) H'
theorem grp_more (ns : List Nd) (i : Nat) (n : Nd) (h : ns[i]? = some n) : grp (ns.take (i + 1)) = stepG (grp (ns.take i)) n := by
  rw [take_more h, grp_app]
theorem ok_joined {f : Addr} {fd : FuncData} {k : Nat} (F : Fun K "_law_joined" "_law_joined" sJoined f fd) : FnOk P w K mg base CX0 (k + 1) f fd ["nodes"] (spJoined K) := by
  refine F.ok scJoined (fun vs H Q E h => ?_) (fun cdv A outer s H vs Q E hr h => ?_)
  · obtain ⟨a, us, ns, l, rfl, _⟩ := h
    rfl
  · obtain ⟨a, us, ns, l, rfl, hS, hn, ok, l20, hlen, q⟩ := h
    refine ⟨_, pss_cons (ps_set (i := 1) scJoined.nd rfl (.inl rfl) (pe_lst pa_nil))
      (pss_cons (ps_for PassesOwn.never rfl (pi_list (pv 0)) (pg_name (i := 2) scJoined.nd rfl (.inl rfl))
        (pss_one (ps_if (PW.pt (pw_and (pt_cmpR (op_neD hr.units) (pv 1) (pe_lst pa_nil) (nomark _)) (pw_and1 (pt_cmpR (op_eqD hr.units) (pe_ix ix_tup (pe_ix ix_list (pv 1) (pe_un un_neg pe_int) (fun _ _ => rfl)) pe_int (fun _ _ => rfl)) (pv 2) (nomark _)))))
          (pss_one (ps_asg (pe_tup (pa_cons (pv 2) (pa_cons (pe_op op_add (pe_ix ix_tup (pe_ix ix_list (pv 1) (pe_un un_neg pe_int) (fun _ _ => rfl)) pe_int (fun _ _ => rfl)) pe_int) pa_nil))) (pg_sub (pv 1) (pe_un un_neg pe_int) set_list)))
          (pss_one (ps_expr (pe_bm PySem.F.plainAttrs_list PySem.F.slot_list_append PySem.F.type_list_append mt_append (pv 1) (pa_cons (pe_tup (pa_cons (pv 2) (pa_cons pe_int pa_nil))) pa_nil)))))))
      (pss_one (ps_ret (pe_lc (own := [("node", 2), ("count", 3)]) (g := gTup K 2 (gCons (gName 2) (gCons (gName 3) gNil))) (tt := tYes) rfl scJoined.nd (pi_list (pv 1))
        (blkOk_by (N := ["nodes", "found", "node", "count"]) (sc := defScope sJoined) (by decide +kernel))
        (fun _ _ _ _ _ => pg_tup rfl (pgs_cons (pg_name (i := 2) scJoined.nd rfl (Or.inl rfl) (hf := Or.inr rfl)) (pgs_cons (pg_name (i := 3) scJoined.nd rfl (Or.inl rfl) (hf := Or.inr rfl)) pgs_nil))) (fun _ _ _ _ _ => pts_nil)
        (fun _ _ _ _ _ => pe_ifExp (pt_cmpR op_eq (pv 3) pe_int (nomark _)) (pv 2) (pe_tup (pa_cons pe_str (pa_cons (pv 2) (pa_cons (pv 3) pa_nil))))))))), ?_⟩
    have hlu := hn.len
    refine ⟨(show 0 ≤ sizeLine from by decide), fun F0 hF => ?_⟩
    have s0 := sameN (o := .lst []) hF
    refine ⟨.ref a, rfl, a, rfl, ⟨us, s0.seq hS⟩, ?_⟩
    refine for_list (xs := us) (fun i σ H' => ∃ ws y2 y3, σ = [some (.ref a), some (.ref F0), y2, y3] ∧ H' F0 = some (.lst ws) ∧ PrsV K H' ws (grp (ns.take i)) ∧ Same H H') ⟨[], none, none, rfl, upd_same, ?_, s0⟩ (fun i σ H' _ hp => ?_) (fun i x σ H1 hx hp => ?_) (fun σ H' hp => ?_)
    · rw [List.take_zero]
      exact .nil
    · obtain ⟨_, _, _, _, _, _, e⟩ := hp
      exact e.seq hS
    · obtain ⟨ws, y2, y3, rfl, e1, e2, s1⟩ := hp
      obtain ⟨n, hni, kn⟩ := (hn.up (.of s1)).get hx
      have okn := ok.mem n (List.mem_of_getElem? hni)
      have okg : ∀ p ∈ grp (ns.take i), Ok p.1 l := fun p hp => ok.mem _ (List.mem_of_mem_take (grp_foot _ p hp).1)
      have lw : ws.length < sizeLine := by
        rw [DpAll.len e2, List.length_map]
        have g1 := grp_len (ns.take i)
        rw [List.length_take] at g1
        exact line5 (by omega)
      have gm := grp_more ns i n hni
      refine ifs_any (fun b H' => Same H1 H' ∧ (b = true → ∃ r c, grp (ns.take i) = r ++ [(n, c)]) ∧ (b = false → ∀ m c, (grp (ns.take i)).getLast? = some (m, c) → m ≠ n)) (fun b H2 hS2 => ?_) (fun R hR => ?_)
      · obtain ⟨s2, nb1, nb2⟩ := hS2
        have f2 := s2 _ _ e1
        have d2 := e2.up (.of s2)
        cases b with
        | true =>
          obtain ⟨r, c, er⟩ := nb1 rfl
          rw [er] at d2
          obtain ⟨w1, ra, u, rfl, k1, t1, t2⟩ := d2.split
          · skip
            refine ⟨x, rfl, .ref F0, rfl, 1, rfl, F0, _, -1, .ref ra, rfl, rfl, .inl (.inl f2), atI_last _ _, ra, _, 1, .int c, rfl, rfl, t1, rfl, c, 1, rfl, rfl, (show 2 ≤ sizeLine from by decide), fun t ht => ?_⟩
            have s3 := sameN (o := .tup [x, .int ((c : Int) + 1)]) ht
            have f3 := s3 _ _ f2
            refine ⟨.ref F0, rfl, 1, rfl, F0, w1 ++ [.ref ra], -1, w1.length, rfl, rfl, f3, ?_, w1 ++ [.ref t], _, _, rfl, ?_, ?_, sameW (s1.trans (s2.trans s3)) hF⟩
            · rw [List.length_append]
              exact ixN_last
            · rw [upd_same, List.set_append_right _ _ (Nat.le_refl _)]
              simp
            · rw [gm, er, stepG_eq]
              have tt : Tups K (upd H2 t (.tup [x, .int ((c : Int) + 1)])) (upd (upd H2 t (.tup [x, .int ((c : Int) + 1)])) F0 (.lst ((w1 ++ [V.ref ra]).set w1.length (V.ref t)))) := (But.set (p := F0)).tups f3
              refine PrsV.app (PrsV.up tt (PrsV.up (.of s3) k1)) (PrsV.one (p := (n, c + 1)) (tt _ _ (.inl (.inl ?_))) (((kn.up (.of s2)).up (.of s3)).up tt))
              rw [upd_same]
              exact congrArg (fun z => some (HO.tup [x, z])) (int_congr (by omega))
        | false =>
          have ne := stepG_ne (nb2 rfl)
          refine ⟨.ref F0, rfl, .inl ⟨rfl, _, .inl (.inl f2)⟩, x, rfl, (show 2 ≤ sizeLine from by decide), fun t ht => ?_⟩
          have s3 := sameN (o := .tup [x, .int 1]) ht
          have f3 := s3 _ _ f2
          refine ⟨F0, _, _, rfl, rfl, f3, lw, ws ++ [.ref t], _, _, rfl, upd_same, ?_, sameW (s1.trans (s2.trans s3)) hF⟩
          rw [gm, ne]
          have tt : Tups K (upd H2 t (.tup [x, .int 1])) (upd (upd H2 t (.tup [x, .int 1])) F0 (.lst (ws ++ [.ref t]))) := (But.set (p := F0)).tups f3
          exact PrsV.app (PrsV.up tt (PrsV.up (.of s3) d2)) (PrsV.one (p := (n, 1)) (tt _ _ (.inl (.inl upd_same))) (((kn.up (.of s2)).up (.of s3)).up tt))
      · refine ⟨.ref F0, rfl, (show 0 ≤ sizeLine from by decide), fun l9 hl9 => ⟨_, _, .lst (.inl (.inl ?_)) (e2.up (.of (sameN hl9))), .lst (.inl (.inl upd_same)) .nil, shaped_prs okg l20, shaped_nil, _, rfl, ?_⟩⟩
        · rw [upd_ne (ne_of_none e1 hl9)]
          exact e1
        · rw [eqv_emptyP]
          have s9 := sameN (o := .lst []) hl9
          rcases List.eq_nil_or_concat (grp (ns.take i)) with z | ⟨init, ⟨m, c⟩, z⟩
          · rw [z]
            exact hR _ _ ⟨s9, (fun z => nomatch z), fun _ m c hm => by rw [z] at hm; cases hm⟩
          · rw [List.concat_eq_append] at z
            have d9 := e2.up (.of s9)
            rw [z] at d9
            obtain ⟨w1, ra, u, rfl, k1, t1, t2⟩ := d9.split
            · skip
              have okm : Ok m l := okg (m, c) (by rw [z]; simp)
              have z0 : (grp (ns.take i)).isEmpty = false := by rw [z]; simp
              rw [z0]
              refine ⟨.ref F0, rfl, 1, rfl, F0, _, -1, .ref ra, rfl, rfl, .inl (.inl (s9 _ _ e1)), atI_last _ _, ra, _, 0, u, rfl, rfl, t1, rfl, x, rfl, _, _, t2, kn.up (.of s9), shaped_dat okm l20, shaped_dat okn l20, _, rfl, hR _ _ ⟨s9, fun eb => ?_, fun eb m' c' hm => ?_⟩⟩
              · have : m = n := (eqv_dat _ _).mp eb
                exact ⟨init, c, by rw [z, this]⟩
              · rw [z, List.getLast?_append] at hm
                have : m = m' ∧ c = c' := by simpa using hm
                rw [← this.1]
                intro eq
                rw [eqv_yes eq] at eb
                cases eb
    · obtain ⟨ws, y2, y3, rfl, e1, e2, s1⟩ := hp
      rw [hlu, List.take_length] at e2
      have lz : (grp ns).length ≤ 100000 := Nat.le_trans (grp_len ns) hlen
      refine ⟨.ref F0, rfl, F0, rfl, ⟨_, .inl (.inl e1)⟩, fun D nD => ?_⟩
      refine lc_list (xs := ws) (fun i Hd => ∃ vs', Hd D = some (.lst vs') ∧ NdsV K Hd vs' (((grp ns).take i).map mkRun) ∧ Same H' Hd) ⟨[], upd_same, ?_, sameN nD⟩ (fun i Hd _ hp => ?_) (fun i v Hd hv hp => ?_) (fun Hd hp => ?_)
      · rw [List.take_zero]
        exact .nil
      · obtain ⟨_, _, _, e⟩ := hp
        exact .inl (.inl (e _ _ e1))
      · obtain ⟨vs', g1, g2, s2⟩ := hp
        obtain ⟨p, ra, u, hpi, rfl, t1, t2⟩ := (e2.up (.of s2)).get hv
        have tm : ((grp ns).take (i + 1)).map mkRun = ((grp ns).take i).map mkRun ++ [mkRun p] := by
          rw [take_more hpi, List.map_append]
          rfl
        have lv : vs'.length < sizeLine := by
          rw [g2.len, List.length_map]
          exact line5 (small_take lz)
        refine ⟨ra, _, rfl, t1, rfl, u, _, rfl, _, [], rfl, rfl, rfl, ?_⟩
        refine ⟨_, rfl, rfl, _, rfl, ite2 (fun e => ?_) (fun e => ?_)⟩
        · have e0 : (p.2 : Int) = 1 := V.int.inj (of_decide_eq_true e)
          have e3 : p.2 = 1 := by omega
          refine ⟨u, rfl, vs', g1, lv, vs' ++ [u], upd_same, ?_, sameW s2 nD⟩
          have tt : Tups K Hd (upd Hd D (.lst (vs' ++ [u]))) := (But.set (p := D)).tups g1
          rw [tm]
          refine (g2.up tt).app (.one ?_)
          unfold mkRun
          rw [if_pos e3]
          exact t2.up tt
        · have e3 : p.2 ≠ 1 := fun z => e (by rw [z]; rfl)
          refine ⟨u, rfl, _, rfl, (show 3 ≤ sizeLine from by decide), fun t ht => ?_⟩
          have s3 := sameN (o := .tup [.str "run", u, .int (p.2 : Int)]) ht
          refine ⟨vs', s3 _ _ g1, lv, vs' ++ [.ref t], upd_same, ?_, sameW (s2.trans s3) nD⟩
          have tt : Tups K (upd Hd t (.tup [.str "run", u, .int (p.2 : Int)])) (upd (upd Hd t (.tup [.str "run", u, .int (p.2 : Int)])) D (.lst (vs' ++ [.ref t]))) := (But.set (p := D)).tups (s3 _ _ g1)
          rw [tm]
          refine ((g2.up (.of s3)).up tt).app (.one ?_)
          unfold mkRun
          rw [if_neg e3]
          exact .ofRun (tt _ _ (.inl (.inl upd_same))) ((t2.up (.of s3)).up tt)
      · obtain ⟨vs', g1, g2, s2⟩ := hp
        rw [e2.len, List.take_length] at g2
        exact q _ D vs' (s1.trans s2) g1 g2
end
end C05

set_option Elab.async false
set_option linter.all false
set_option maxRecDepth 100000
namespace C05
open PySem PySem.Spec PyProof.Rows L2 Loc
/-! ### the law -/
section
variable {P : Program} {w : World} {K : PySem.W.Frag} {mg : Str → Option Value} {base : Heap}
abbrev nmLaw : List Str := ["script", "k", "pot", "turn", "node", "some", "many", "nodes"]
theorem scLaw : FnScope nmLaw ["script"] (defScope sLaw) := ⟨rfl, rfl, rfl, by decide +kernel, rfl, by decide +kernel, by decide +kernel⟩
def spLaw (K : PySem.W.Frag) : Sp := fun vs H Q _ => ∃ (a : Addr) (ns : List Int), vs = [.ref a] ∧ SqL K H a (ns.map V.int) ∧ ns.length ≤ 63 ∧ ∀ H', Q (.bl true) H'
structure Facts (K : PySem.W.Frag) (mg : Str → Option Value) (fT fO fG fL fR fB fW fU fP fQ fM fE fJ : Addr) (dT dO dG dL dR dB dW dU dP dQ dM dE dJ : FuncData) : Prop extends GenF K mg fT fO fG fL fR fB fW fU dT dO dG dL dR dB dW dU where
  P : Fun K "_law_pot" "_law_pot" sPot fP dP
  Q : Fun K "_law_pool" "_law_pool" sPool fQ dQ
  M : Fun K "made_runs" "made_runs" sMade fM dM
  E : Fun K "run_of" "run_of" sRunOf fE dE
  J : Fun K "_law_joined" "_law_joined" sJoined fJ dJ
  gP : mg "_law_pot" = some (.ref fP)
  gQ : mg "_law_pool" = some (.ref fQ)
  gM : mg "made_runs" = some (.ref fM)
  gE : mg "run_of" = some (.ref fE)
  gJ : mg "_law_joined" = some (.ref fJ)
  bP : Binds K dP ["script", "k"] []
  bQ : Binds K dQ ["pot", "level"] []
  bM : Binds K dM ["nodes"] []
  bE : Binds K dE ["node", "count"] []
  bJ : Binds K dJ ["nodes"] []
  abs : mg "abs" = none
  int : mg "int" = none
  range : mg "range" = none
  max : mg "max" = none
  min : mg "min" = none
  repr : mg "repr" = none
  list : mg "list" = none
  any : mg "any" = none
variable {fT fO fG fL fR fB fW fU fP fQ fM fE fJ : Addr} {dT dO dG dL dR dB dW dU dP dQ dM dE dJ : FuncData}
theorem cost_small : ∀ l : Nat, l < 3 → cost l ≤ 128
  | 0, _ => by decide
  | 1, _ => by decide
  | 2, _ => by decide
  | l + 3, h => by omega
theorem wide_small : ∀ l : Nat, l < 3 → wide l ≤ 1340
  | 0, _ => by decide
  | 1, _ => by decide
  | 2, _ => by decide
  | l + 3, h => by omega
theorem ok_law {f : Addr} {fd : FuncData} (F : Fun K "law" "law" sLaw f fd) (X : Facts K mg fT fO fG fL fR fB fW fU fP fQ fM fE fJ dT dO dG dL dR dB dW dU dP dQ dM dE dJ) :
    FnG P w K mg base CX0 11 f fd ["script"] (spLaw K) := by
  have GP : FnOk P w K mg base CX0 1 fP dP ["script", "k"] (spPot K) := ok_pot X.P X.len X.abs X.int
  have GT : FnOk P w K mg base CX0 1 fT dT ["pot", "bound"] spTake := ok_take X.T
  have GO : FnOk P w K mg base CX0 2 fO dO ["pot", "some"] spOf := ok_of X.O X.T X.gT X.bT X.len
  have GG : FnOk P w K mg base CX0 1 fG dG ["node"] (spGround K) := ok_ground X.G X.isinstance X.tuple
  have GQ : FnOk P w K mg base CX0 10 fQ dQ ["pot", "level"] (spPool K 3) := ok_pool (m := 3) X.toGenF X.Q X.list X.any
  have GM : FnOk P w K mg base CX0 2 fM dM ["nodes"] (spMade K) := ok_made X.M X.E X.gE X.bE X.len X.tuple
  have GJ : FnOk P w K mg base CX0 1 fJ dJ ["nodes"] (spJoined K) := ok_joined X.J
  refine fun_okG F scLaw (fun vs H Q E h => ?_) (fun cdv A outer s H vs Q E hg hr h => ?_)
  · obtain ⟨a, ns, rfl, _⟩ := h
    rfl
  · obtain ⟨a, ns, rfl, hS, hlen, q⟩ := h
    have r1 := hr.mono (j := 1) (by omega)
    have r2 := hr.mono (j := 2) (by omega)
    refine ⟨_, pss_cons (ps_for PassesOwn.never rfl (pi_range1 (by rfl) X.range (pa_cons (pe_callB (L2.call_max2 rfl) (by rfl) X.max (by decide +kernel) (pa_cons pe_int (pa_cons (pe_callB (L2.call_min2 rfl) (by rfl) X.min (by decide +kernel)
            (pa_cons pe_int (pa_cons (pe_callB call_len_seq (by rfl) X.len PySem.boot_len (pa_cons (pv 0) pa_nil)) pa_nil))) pa_nil))) pa_nil)) (pg_name (i := 1) scLaw.nd rfl (.inl rfl))
        (pss_cons (ps_set (i := 2) scLaw.nd rfl (.inl rfl) (pe_call GP r1 (by rfl) X.gP X.P.kp X.bP .nil pass0 (pa_cons (pv 0) (pa_cons (pv 1) pa_nil))))
        (pss_one (ps_for PassesOwn.never rfl (pi_range1 (by rfl) X.range (pa_cons pe_int pa_nil)) (pg_name (i := 3) scLaw.nd rfl (.inl rfl))
          (pss_cons (ps_setLc (i := 5) (own := [("node", 4)]) (g := gName 4) (tt := tYes) rfl scLaw.nd rfl rfl (sw_true rfl rfl rfl (by decide +kernel))
              (pi_list (pe_call GQ hr (by rfl) X.gQ X.Q.kp X.bQ .nil pass0 (pa_cons (pv 2) (pa_cons (pe_op op_mod (pv 3) pe_int) pa_nil))))
              (blkOk_by (N := nmLaw) (sc := defScope sLaw) (by decide +kernel)) (fun _ _ _ _ _ => pg_name (i := 4) scLaw.nd rfl (Or.inl rfl)) (fun _ _ _ _ _ => pts_nil)
              (fun _ _ _ _ _ => pe_call GG r1 (by rfl) X.gG X.G.kp X.bG .nil pass0 (pa_cons (pv 4) pa_nil)))
          (pss_cons (ps_set (i := 6) scLaw.nd rfl (.inl rfl) (pe_ifExp (PW.pt (pw_and (pt_cmpR op_eq (pv 3) pe_int (nomark _)) (pw_and1 (pt_cmpR op_eq (pv 1) pe_int (nomark _))))) pe_int
              (pe_call GT r1 (by rfl) X.gT X.T.kp X.bT .nil pass0 (pa_cons (pv 2) (pa_cons pe_int pa_nil)))))
          (pss_cons (ps_set (i := 7) scLaw.nd rfl (.inl rfl) (pe_lst pa_nil))
          (pss_cons (ps_while PassesOwn.never (pt_cmpR op_lt (pe_callB call_len_seq (by rfl) X.len PySem.boot_len (pa_cons (pv 7) pa_nil)) (pv 6) (nomark _))
            (pss_cons (ps_set (i := 4) scLaw.nd rfl (.inl rfl) (pe_call GO r2 (by rfl) X.gO X.O.kp X.bO .nil pass0 (pa_cons (pv 2) (pa_cons (pv 5) pa_nil))))
            (pss_one (ps_expr (pe_bm PySem.F.plainAttrs_list PySem.F.slot_list_extend PySem.F.type_list_extend mt_extend (pv 7) (pa_cons (pe_op op_rep (pe_lst (pa_cons (pv 4) pa_nil))
              (pe_call GO r2 (by rfl) X.gO X.O.kp X.bO .nil pass0 (pa_cons (pv 2) (pa_cons (pe_lst (pa_cons pe_int (pa_cons pe_int (pa_cons pe_int (pa_cons pe_int (pa_cons pe_int pa_nil)))))) pa_nil)))) pa_nil))))))
          (pss_cons (ps_set (i := 7) scLaw.nd rfl (.inl rfl) (pe_slice sl_list (pv 7) po_none (po_some (pv 6))))
          (pss_one (ps_if (pt_cmpR op_ne (pe_callB (call_rep hr hg) (by rfl) X.repr PyProof.Rows.boot_repr (pa_cons (pe_call GM r2 (by rfl) X.gM X.M.kp X.bM .nil pass0 (pa_cons (pe_callTy call_tuple_of (by rfl) X.tuple PyProof.Rows.boot_tuple (pa_cons (pv 7) pa_nil)) pa_nil)) pa_nil))
              (pe_callB (call_rep hr hg) (by rfl) X.repr PyProof.Rows.boot_repr (pa_cons (pe_callTy call_tuple_of (by rfl) X.tuple PyProof.Rows.boot_tuple (pa_cons (pe_call GJ r1 (by rfl) X.gJ X.J.kp X.bJ .nil pass0 (pa_cons (pv 7) pa_nil)) pa_nil)) pa_nil)) (nomark _))
            (pss_one (ps_ret pe_bl)) pss_nil)))))))))))
      (pss_one (ps_ret (pe_cmpR (op_eqD hr.units) (pe_call GM r2 (by rfl) X.gM X.M.kp X.bM .nil pass0 (pa_cons (pe_tup pa_nil) pa_nil)) (pe_tup pa_nil) (nomark _)))), ?_⟩
    refine ⟨.ref a, rfl, a, _, rfl, .inl hS, 3, _, rfl, 1, _, rfl, _, rfl, ?_, ?_, ?_⟩
    · show -(2 ^ 62) ≤ (if (if (((ns.map V.int).length : Nat) : Int) < 3 then (((ns.map V.int).length : Nat) : Int) else 3) > 1 then (if (((ns.map V.int).length : Nat) : Int) < 3 then (((ns.map V.int).length : Nat) : Int) else 3) else 1)
      split <;> (try split) <;> omega
    · show (if (if (((ns.map V.int).length : Nat) : Int) < 3 then (((ns.map V.int).length : Nat) : Int) else 3) > 1 then (if (((ns.map V.int).length : Nat) : Int) < 3 then (((ns.map V.int).length : Nat) : Int) else 3) else 1) < 2 ^ 62
      split <;> (try split) <;> omega
    have turns : (if (if (((ns.map V.int).length : Nat) : Int) < 3 then (((ns.map V.int).length : Nat) : Int) else 3) > 1 then (if (((ns.map V.int).length : Nat) : Int) < 3 then (((ns.map V.int).length : Nat) : Int) else 3) else 1).toNat ≤ 3 := by
      split <;> (try split) <;> omega
    refine for_range (fun i σ H' => ∃ y1 y2 y3 y4 y5 y6 y7, σ = [some (.ref a), y1, y2, y3, y4, y5, y6, y7] ∧ Same H H') ⟨none, none, none, none, none, none, none, rfl, Same.refl H⟩ (fun k σ H1 hk hp => ?_) (fun σ H' _ => ?_)
    · obtain ⟨y1, y2, y3, y4, y5, y6, y7, rfl, sm⟩ := hp
      have hk3 : k < 3 := Nat.lt_of_lt_of_le hk turns
      refine ⟨.ref a, rfl, _, rfl, a, ns, k, ?_, sm.seq hS, by omega, by omega, fun p o np po => ?_⟩
      · show [V.ref a, V.int (0 + (k : Int))] = _
        rw [Int.zero_add]
      refine ⟨6, rfl, by decide, by decide, ?_⟩
      refine for_range (fun i σ H' => ∃ y3 y4 y5 y6 y7, σ = [some (.ref a), some (.int (0 + k)), some (.ref p), y3, y4, y5, y6, y7] ∧ But p H1 H' ∧ Pot H' p (6000 * i)) ⟨_, _, _, _, _, rfl, .set, .put po⟩ (fun t σ H2 ht hp => ?_) (fun σ H' hp => ?_)
      · obtain ⟨y3, y4, y5, y6, y7, rfl, b2, p2⟩ := hp
        have ht6 : t < 6 := ht
        have e3 : (0 + (t : Int)) % 3 = ((t % 3 : Nat) : Int) := by omega
        have l3 : t % 3 < 3 := Nat.mod_lt _ (by decide)
        have cs := cost_small (t % 3) l3
        have ws' := wide_small (t % 3) l3
        generalize t % 3 = l at e3 l3 cs ws'
        refine ⟨.ref p, rfl, _, rfl, _, 3, rfl, rfl, (show (0 : Int) < 3 by decide), p, _, l, _, rfl, e3, l3, by omega, p2, by omega, fun H3 pa pvs pns b3 hpa dpa okpa nd two nine p3 => ?_⟩
        have b23 := b2.trans b3
        refine ⟨pa, rfl, ⟨_, .inl (.inl hpa)⟩, fun D nD => ?_⟩
        have nDp : D ≠ p := p3.ne nD
        refine lc_list (xs := pvs) (fun i Hd => ∃ vs', Hd D = some (.lst vs') ∧ NdsV K Hd vs' ((pns.take i).map Nd.base) ∧ Same H3 Hd) ⟨[], upd_same, ?_, sameN nD⟩ (fun i Hd _ hp => ?_) (fun i v Hd hv hp => ?_) (fun H4 hp => ?_)
        · rw [List.take_zero]
          exact .nil
        · obtain ⟨_, _, _, e⟩ := hp
          exact .inl (.inl (e _ _ hpa))
        · obtain ⟨vs', g1, g2, s2⟩ := hp
          obtain ⟨n, hn, kn⟩ := (dpa.up (.of s2)).get hv
          refine ⟨rfl, v, rfl, v, n, rfl, kn, fun v' hv' => ⟨vs', g1, ?_, vs' ++ [v'], upd_same, ?_, sameW s2 nD⟩⟩
          · rw [g2.len, List.length_map]
            exact line5 (small_take (by omega))
          · have tt : Tups K Hd (upd Hd D (.lst (vs' ++ [v']))) := (But.set (p := D)).tups g1
            rw [take_more hn, List.map_append]
            exact (g2.up tt).app (.one (hv'.up tt))
        obtain ⟨bvs, g1, g2, s4⟩ := hp
        rw [dpa.len, List.take_length] at g2
        have p4 : Pot H4 p (6000 * t + 10 * cost l) := by
          obtain ⟨o', ho, po'⟩ := p3
          exact ⟨o', s4 _ _ ho, po'⟩
        have b4 := b23.trans (Same.but s4)
        have okb : ∀ n ∈ pns.map Nd.base, Ok n l ∧ n.isRun = false := fun n hn => by
          obtain ⟨m, hm, rfl⟩ := List.mem_map.mp hn
          exact (okpa.mem m hm).base
        have lenb : bvs.length = pns.length := by rw [g2.len, List.length_map]
        generalize pns.map Nd.base = bns at g2 okb
        dsimp only [gName, tSeq, tAsg]
        refine anyE (fun v H' => ∃ mm : Nat, v = .int mm ∧ mm ≤ 2000 ∧ But p H4 H' ∧ Pot H' p (6000 * t + 10 * cost l + 1)) (fun v H5 hS5 => ?_) (fun R hR => ?_)
        · obtain ⟨mm, rfl, m1, b5, p5⟩ := hS5
          have g5 := b5.at nDp g1
          have d5 := g2.up (b5.tupsP p4)
          refine ⟨(show 0 ≤ sizeLine from by decide), fun N0 nN => ?_⟩
          have nNp : N0 ≠ p := p5.ne nN
          have nDN : D ≠ N0 := ne_of_none g5 nN
          refine ⟨fun m σ H' => ∃ us nns y4, m = mm - nns.length ∧ nns.length ≤ mm + 40 ∧ σ = [some (.ref a), some (.int (0 + k)), some (.ref p), some (.int (0 + t)), y4, some (.ref D), some (.int mm), some (.ref N0)] ∧ H' N0 = some (.lst us) ∧ NdsV K H' us nns ∧ (∀ n ∈ nns, Ok n l ∧ n.isRun = false) ∧
              H' D = some (.lst bvs) ∧ NdsV K H' bvs bns ∧ But p H5 H' ∧ Pot H' p (6000 * t + 10 * cost l + 1 + 2 * nns.length), ⟨mm, [], [], _, rfl, Nat.zero_le _, rfl, upd_same, .nil, (fun n hn => nomatch hn), ?_, d5.up (.of (sameN nN)), .new nN, p5.new nN⟩, ?_⟩
          · rw [upd_ne nDN]
            exact g5
          rintro m σ H6 ⟨us, nns, y4, rfl, hle, rfl, e1, e2, e3', e4, e5, e6, e7⟩
          refine ⟨.ref N0, rfl, N0, us, rfl, .inl (.inl (.inl e1)), _, rfl, _, _, rfl, rfl, _, rfl, ite2 (fun e => ?_) (fun e => ?_)⟩
          · have hlt : nns.length < mm := by
              have : ((us.length : Nat) : Int) < (mm : Int) := of_decide_eq_true e
              rw [e2.len] at this
              omega
            refine ⟨fun σ' H' => ∃ us nns' y4, nns.length < nns'.length ∧ nns'.length ≤ mm + 40 ∧ σ' = [some (.ref a), some (.int (0 + k)), some (.ref p), some (.int (0 + t)), y4, some (.ref D), some (.int mm), some (.ref N0)] ∧ H' N0 = some (.lst us) ∧ NdsV K H' us nns' ∧ (∀ n ∈ nns', Ok n l ∧ n.isRun = false) ∧
              H' D = some (.lst bvs) ∧ NdsV K H' bvs bns ∧ But p H5 H' ∧ Pot H' p (6000 * t + 10 * cost l + 1 + 2 * nns'.length), fun σ' H' hN => ?_, ?_⟩
            · obtain ⟨u', n', y, k1, k2, k3⟩ := hN
              exact ⟨mm - n'.length, by omega, u', n', y, rfl, k2, k3⟩
            refine ⟨.ref p, rfl, .ref D, rfl, p, D, bvs, _, rfl, e7, by omega, nDp, e4, List.length_pos_iff.mp (by omega), by omega, fun j x H7 hj b7 p7 => ?_⟩
            have tp7 : Tups K H6 H7 := b7.tupsP e7
            obtain ⟨xn, hxn, kx⟩ := (e5.up tp7).get hj
            have okx := okb xn (List.mem_of_getElem? hxn)
            refine ⟨.ref N0, rfl, .inl ⟨rfl, _, .inl (.inl (b7.at nNp e1))⟩, x, rfl, (show 1 ≤ sizeLine from by decide), fun l1 n1 => ?_⟩
            refine ⟨.ref p, rfl, (show 5 ≤ sizeLine from by decide), fun l2 n2 => ?_⟩
            have p7' := (p7.new (o := .lst [x]) n1).new (o := .lst [.int 1, .int 1, .int 2, .int 3, .int 40]) n2
            refine ⟨p, l2, _, _, rfl, p7', by omega, (p7.new n1).ne n2, upd_same, List.cons_ne_nil _ _, (show 5 ≤ 1000 from by decide), fun j2 x2 H8 hj2 b8 p8 => ?_⟩
            have cnt : ∃ c : Nat, x2 = .int c ∧ 1 ≤ c ∧ c ≤ 40 := by
              match j2, hj2 with
              | 0, hj => exact ⟨1, (Option.some.inj hj).symm, by decide, by decide⟩
              | 1, hj => exact ⟨1, (Option.some.inj hj).symm, by decide, by decide⟩
              | 2, hj => exact ⟨2, (Option.some.inj hj).symm, by decide, by decide⟩
              | 3, hj => exact ⟨3, (Option.some.inj hj).symm, by decide, by decide⟩
              | 4, hj => exact ⟨40, (Option.some.inj hj).symm, by decide, by decide⟩
              | j + 5, hj => cases hj
            obtain ⟨c, rfl, c1, c2⟩ := cnt
            have nl1 : l1 ≠ p := p7.ne n1
            have s2 := sameN (o := .lst [.int 1, .int 1, .int 2, .int 3, .int 40]) n2
            have h8l1 : H8 l1 = some (.lst [x]) := b8.at nl1 (s2 _ _ upd_same)
            refine ⟨l1, c, [x], rfl, rfl, h8l1, by omega, by omega, ?_, fun l4 n4 => ?_⟩
            · show 1 * (c : Int).toNat ≤ sizeLine
              exact small_line (by omega)
            rw [rep_one, Int.toNat_natCast]
            have s1 := sameN (o := .lst [x]) n1
            have s12 := s1.trans s2
            have s4' := sameN (o := .lst (List.replicate c x)) n4
            have toH8 : But p H6 H8 := (b7.trans (Same.but s12)).trans b8
            have toH9 : But p H6 (upd H8 l4 (.lst (List.replicate c x))) := toH8.trans (Same.but s4')
            have t9 : Tups K H6 (upd H8 l4 (.lst (List.replicate c x))) := toH9.tupsP e7
            have h9 := toH9.at nNp e1
            have n4N : l4 ≠ N0 := fun z => by
              rw [z, toH8.at nNp e1] at n4
              cases n4
            refine ⟨N0, l4, us, _, rfl, rfl, h9, upd_same, ?_, ?_⟩
            · rw [e2.len, List.length_replicate]
              exact small_line (by omega)
            have kx9 : NdV K (upd H8 l4 (.lst (List.replicate c x))) x xn := ((kx.up (.of s12)).up (b8.tupsP p7')).up (.of s4')
            have tt : Tups K (upd H8 l4 (.lst (List.replicate c x))) (upd (upd H8 l4 (.lst (List.replicate c x))) N0 (.lst (us ++ List.replicate c x))) := (But.set (p := N0)).tups h9
            refine ⟨us ++ List.replicate c x, nns ++ List.replicate c xn, _, ?_, ?_, rfl, upd_same, ((e2.up t9).up tt).app (.rep (kx9.up tt) c), fun n hn => ?_, ?_, (e5.up t9).up tt, ?_, ?_⟩
            · rw [List.length_append, List.length_replicate]
              omega
            · rw [List.length_append, List.length_replicate]
              omega
            · rcases List.mem_append.mp hn with hn | hn
              · exact e3' n hn
              · rw [(List.mem_replicate.mp hn).2]
                exact okx
            · rw [upd_ne nDN]
              exact toH9.at nDp e4
            · exact (e6.trans toH9).wr nN
            · refine Pot.oth ((p8.new n4).le ?_) nNp.symm
              rw [List.length_append, List.length_replicate]
              omega
          · have hge : mm ≤ nns.length := by
              have : ¬ ((us.length : Nat) : Int) < (mm : Int) := fun z => e (decide_eq_true z)
              rw [e2.len] at this
              omega
            -- nodes = nodes[:many]
            refine ⟨.ref N0, rfl, _, rfl, _, rfl, N0, us, rfl, .inl (.inl e1), fun N1 n1 => ?_⟩
            rw [cut_to]
            have s7 := sameN (o := .lst (us.take mm)) n1
            have d7 : NdsV K (upd H6 N1 (.lst (us.take mm))) (us.take mm) (nns.take mm) := (e2.up (.of s7)).take mm
            have ok7 : OkAll (nns.take mm) l := OkAll.of fun n hn => (e3' n (List.mem_of_mem_take hn)).1
            have nr7 : ∀ n ∈ nns.take mm, n.isRun = false := fun n hn => (e3' n (List.mem_of_mem_take hn)).2
            have len7 : (nns.take mm).length = mm := by
              rw [List.length_take]
              omega
            generalize nns.take mm = fin at d7 ok7 nr7 len7
            have okr := mkRuns_ok ok7 nr7 (Nat.le_trans (show fin.length ≤ 2000 by omega) (by decide +kernel))
            have lr : (mkRuns fin).length ≤ 2000 := by
              have := grp_len fin
              unfold mkRuns
              rw [List.length_map]
              omega
            have szr : (mkRuns fin).length * wide l + 2 * (mkRuns fin).length + 3 ≤ sizeLine := by
              have : (mkRuns fin).length * wide l ≤ 2000 * 1340 := Nat.mul_le_mul lr ws'
              rw [sizeLine_eq]
              omega
            have h7N : (upd H6 N1 (.lst (us.take mm))) N1 = some (.lst (us.take mm)) := upd_same
            refine ⟨.ref N1, rfl, N1, _, rfl, .inl ⟨.inl (.inl h7N), fun t8 n8 => ?_⟩⟩
            have s8 := sameN (o := .tup (us.take mm)) n8
            refine ⟨t8, _, fin, l, rfl, .inl (.inl upd_same), d7.up (.of s8), ok7, by omega, by omega, fun H9 m9 w9 s9 hm9 d9 => ?_⟩
            dsimp only [tNil]
            refine rep_nodes (.inl (.inl hm9)) d9 okr (by omega) szr ?_
            have s89 := s8.trans s9
            refine ⟨.ref N1, rfl, N1, _, fin, l, rfl, .inl (.inl (s89 _ _ h7N)), d7.up (.of s89), ok7, by omega, by omega, fun H10 m10 w10 s10 hm10 d10 => ⟨m10, _, rfl, .inl ⟨.inl (.inl hm10), fun t11 n11 => ?_⟩⟩⟩
            have s11 := sameN (o := .tup w10) n11
            dsimp only [tNil]
            refine rep_nodes (.inl (.inl upd_same)) (d10.up (.of s11)) okr (by omega) szr ⟨rfl, _, rfl, ?_⟩
            rw [decide_eq_true rfl]
            refine iteF ?_
            refine ⟨_, _, _, _, _, rfl, ((b4.trans b5).trans e6).trans (Same.but (s7.trans (s89.trans (s10.trans s11)))), ?_⟩
            obtain ⟨o', ho, po'⟩ := e7
            exact ⟨o', s11 _ _ (s10 _ _ (s89 _ _ (s7 _ _ ho))), po'.le (by omega)⟩
        · refine if_any (fun b H' => H4 = H') (fun b H' hS => ?_) (fun R' hR' => ?_)
          · subst hS
            cases b with
            | true => exact hR _ _ ⟨2000, rfl, by decide, .refl _ _, p4.le (by omega)⟩
            | false => exact ⟨.ref p, rfl, p, 61, _, rfl, p4, by omega, by decide, by decide +kernel, fun d H' d0 d1 b' p' => hR _ _ ⟨d.toNat, int_congr (by omega), by omega, b', p'⟩⟩
          · refine ⟨_, rfl, rfl, _, rfl, ite2 (fun _ => ?_) (fun _ => hR' _ _ rfl)⟩
            exact ⟨_, rfl, rfl, _, rfl, hR' _ _ rfl⟩
      · obtain ⟨y3, y4, y5, y6, y7, rfl, b2, _⟩ := hp
        exact ⟨_, _, _, _, _, _, _, rfl, sm.trans (b2.same np)⟩
    · refine ⟨(show 0 ≤ sizeLine from by decide), fun t nt => ?_⟩
      refine ⟨t, [], [], 0, rfl, .inl (.inl upd_same), .nil, by unfold OkAll; trivial, by decide, by decide, fun H2 m ws s2 hm dm => ⟨(show 0 ≤ sizeLine from by decide), fun t2 n2 => ?_⟩⟩
      have ew : ws = [] := NdsV.inv0 dm
      subst ew
      refine ⟨.tuple [], .tuple [], .tup (.inl (.inl (sameN n2 _ _ hm))) .nil, .tup (.inl (.inl upd_same)) .nil, (shaped_ints []).2, (shaped_ints []).2, ?_⟩
      have : PyData.eqv (.tuple []) (.tuple []) = true := by simp [PyData.eqv, PyData.eqvAll]
      rw [this]
      exact q _
end
end C05

set_option Elab.async false
set_option linter.all false
set_option maxRecDepth 100000
namespace C05
open PySem PySem.Spec PyProof.Rows L2 Loc
/-! ### what the top has written; the law's own head -/
theorem all_mk {l : PySem.W.OpenLaw} {w : World} {K : PySem.W.Frag} {h : Heap} {mg : Str → Option Value} {fa : Addr} (X : K.In h) (G : h.Ns mainGlobals mg) (hfa : mg "law" = some (.ref fa))
    {f0 : Addr} {od0 an0 : Option Addr} {sl0 : Array (Option Value)} {oc0 kV0 dc0 pm0 cd0 ct0 : Value}
    (a0 : PySem.W.nsIn K mainGlobals "_law_take" = some (some (.ref f0)))
    (l0 : K.lookup f0 = some ⟨oc0, od0, .func (PySem.W.fnOf "_law_take" "_law_take" (defArgs sTake) (defBody sTake) (defScope sTake) .none kV0 dc0 pm0 an0 cd0 ct0), sl0⟩)
    (c0 : PySem.W.codeIn K cd0 "_law_take" = true) (k0 : PySem.W.keepIn K (.ref f0) = true)
    {f1 : Addr} {od1 an1 : Option Addr} {sl1 : Array (Option Value)} {oc1 kV1 dc1 pm1 cd1 ct1 : Value}
    (a1 : PySem.W.nsIn K mainGlobals "_law_of" = some (some (.ref f1)))
    (l1 : K.lookup f1 = some ⟨oc1, od1, .func (PySem.W.fnOf "_law_of" "_law_of" (defArgs sOf) (defBody sOf) (defScope sOf) .none kV1 dc1 pm1 an1 cd1 ct1), sl1⟩)
    (c1 : PySem.W.codeIn K cd1 "_law_of" = true) (k1 : PySem.W.keepIn K (.ref f1) = true)
    {f2 : Addr} {od2 an2 : Option Addr} {sl2 : Array (Option Value)} {oc2 kV2 dc2 pm2 cd2 ct2 : Value}
    (a2 : PySem.W.nsIn K mainGlobals "_law_ground" = some (some (.ref f2)))
    (l2 : K.lookup f2 = some ⟨oc2, od2, .func (PySem.W.fnOf "_law_ground" "_law_ground" (defArgs sGround) (defBody sGround) (defScope sGround) .none kV2 dc2 pm2 an2 cd2 ct2), sl2⟩)
    (c2 : PySem.W.codeIn K cd2 "_law_ground" = true) (k2 : PySem.W.keepIn K (.ref f2) = true)
    {f3 : Addr} {od3 an3 : Option Addr} {sl3 : Array (Option Value)} {oc3 kV3 dc3 pm3 cd3 ct3 : Value}
    (a3 : PySem.W.nsIn K mainGlobals "_law_leaf" = some (some (.ref f3)))
    (l3 : K.lookup f3 = some ⟨oc3, od3, .func (PySem.W.fnOf "_law_leaf" "_law_leaf" (defArgs sLeaf) (defBody sLeaf) (defScope sLeaf) .none kV3 dc3 pm3 an3 cd3 ct3), sl3⟩)
    (c3 : PySem.W.codeIn K cd3 "_law_leaf" = true) (k3 : PySem.W.keepIn K (.ref f3) = true)
    {f4 : Addr} {od4 an4 : Option Addr} {sl4 : Array (Option Value)} {oc4 kV4 dc4 pm4 cd4 ct4 : Value}
    (a4 : PySem.W.nsIn K mainGlobals "_law_row" = some (some (.ref f4)))
    (l4 : K.lookup f4 = some ⟨oc4, od4, .func (PySem.W.fnOf "_law_row" "_law_row" (defArgs sRow) (defBody sRow) (defScope sRow) .none kV4 dc4 pm4 an4 cd4 ct4), sl4⟩)
    (c4 : PySem.W.codeIn K cd4 "_law_row" = true) (k4 : PySem.W.keepIn K (.ref f4) = true)
    {f5 : Addr} {od5 an5 : Option Addr} {sl5 : Array (Option Value)} {oc5 kV5 dc5 pm5 cd5 ct5 : Value}
    (a5 : PySem.W.nsIn K mainGlobals "_law_block" = some (some (.ref f5)))
    (l5 : K.lookup f5 = some ⟨oc5, od5, .func (PySem.W.fnOf "_law_block" "_law_block" (defArgs sBlock) (defBody sBlock) (defScope sBlock) .none kV5 dc5 pm5 an5 cd5 ct5), sl5⟩)
    (c5 : PySem.W.codeIn K cd5 "_law_block" = true) (k5 : PySem.W.keepIn K (.ref f5) = true)
    {f6 : Addr} {od6 an6 : Option Addr} {sl6 : Array (Option Value)} {oc6 kV6 dc6 pm6 cd6 ct6 : Value}
    (a6 : PySem.W.nsIn K mainGlobals "_law_twins" = some (some (.ref f6)))
    (l6 : K.lookup f6 = some ⟨oc6, od6, .func (PySem.W.fnOf "_law_twins" "_law_twins" (defArgs sTwins) (defBody sTwins) (defScope sTwins) .none kV6 dc6 pm6 an6 cd6 ct6), sl6⟩)
    (c6 : PySem.W.codeIn K cd6 "_law_twins" = true) (k6 : PySem.W.keepIn K (.ref f6) = true)
    {f7 : Addr} {od7 an7 : Option Addr} {sl7 : Array (Option Value)} {oc7 kV7 dc7 pm7 cd7 ct7 : Value}
    (a7 : PySem.W.nsIn K mainGlobals "_law_unlike" = some (some (.ref f7)))
    (l7 : K.lookup f7 = some ⟨oc7, od7, .func (PySem.W.fnOf "_law_unlike" "_law_unlike" (defArgs sUnlike) (defBody sUnlike) (defScope sUnlike) .none kV7 dc7 pm7 an7 cd7 ct7), sl7⟩)
    (c7 : PySem.W.codeIn K cd7 "_law_unlike" = true) (k7 : PySem.W.keepIn K (.ref f7) = true)
    {f8 : Addr} {od8 an8 : Option Addr} {sl8 : Array (Option Value)} {oc8 kV8 dc8 pm8 cd8 ct8 : Value}
    (a8 : PySem.W.nsIn K mainGlobals "_law_pot" = some (some (.ref f8)))
    (l8 : K.lookup f8 = some ⟨oc8, od8, .func (PySem.W.fnOf "_law_pot" "_law_pot" (defArgs sPot) (defBody sPot) (defScope sPot) .none kV8 dc8 pm8 an8 cd8 ct8), sl8⟩)
    (c8 : PySem.W.codeIn K cd8 "_law_pot" = true) (k8 : PySem.W.keepIn K (.ref f8) = true)
    {f9 : Addr} {od9 an9 : Option Addr} {sl9 : Array (Option Value)} {oc9 kV9 dc9 pm9 cd9 ct9 : Value}
    (a9 : PySem.W.nsIn K mainGlobals "_law_pool" = some (some (.ref f9)))
    (l9 : K.lookup f9 = some ⟨oc9, od9, .func (PySem.W.fnOf "_law_pool" "_law_pool" (defArgs sPool) (defBody sPool) (defScope sPool) .none kV9 dc9 pm9 an9 cd9 ct9), sl9⟩)
    (c9 : PySem.W.codeIn K cd9 "_law_pool" = true) (k9 : PySem.W.keepIn K (.ref f9) = true)
    {f10 : Addr} {od10 an10 : Option Addr} {sl10 : Array (Option Value)} {oc10 kV10 dc10 pm10 cd10 ct10 : Value}
    (a10 : PySem.W.nsIn K mainGlobals "made_runs" = some (some (.ref f10)))
    (l10 : K.lookup f10 = some ⟨oc10, od10, .func (PySem.W.fnOf "made_runs" "made_runs" (defArgs sMade) (defBody sMade) (defScope sMade) .none kV10 dc10 pm10 an10 cd10 ct10), sl10⟩)
    (c10 : PySem.W.codeIn K cd10 "made_runs" = true) (k10 : PySem.W.keepIn K (.ref f10) = true)
    {f11 : Addr} {od11 an11 : Option Addr} {sl11 : Array (Option Value)} {oc11 kV11 dc11 pm11 cd11 ct11 : Value}
    (a11 : PySem.W.nsIn K mainGlobals "run_of" = some (some (.ref f11)))
    (l11 : K.lookup f11 = some ⟨oc11, od11, .func (PySem.W.fnOf "run_of" "run_of" (defArgs sRunOf) (defBody sRunOf) (defScope sRunOf) .none kV11 dc11 pm11 an11 cd11 ct11), sl11⟩)
    (c11 : PySem.W.codeIn K cd11 "run_of" = true) (k11 : PySem.W.keepIn K (.ref f11) = true)
    {f12 : Addr} {od12 an12 : Option Addr} {sl12 : Array (Option Value)} {oc12 kV12 dc12 pm12 cd12 ct12 : Value}
    (a12 : PySem.W.nsIn K mainGlobals "_law_joined" = some (some (.ref f12)))
    (l12 : K.lookup f12 = some ⟨oc12, od12, .func (PySem.W.fnOf "_law_joined" "_law_joined" (defArgs sJoined) (defBody sJoined) (defScope sJoined) .none kV12 dc12 pm12 an12 cd12 ct12), sl12⟩)
    (c12 : PySem.W.codeIn K cd12 "_law_joined" = true) (k12 : PySem.W.keepIn K (.ref f12) = true)
    {f13 : Addr} {od13 an13 : Option Addr} {sl13 : Array (Option Value)} {oc13 kV13 dc13 pm13 cd13 ct13 : Value}
    (a13 : PySem.W.nsIn K mainGlobals "law" = some (some (.ref f13)))
    (l13 : K.lookup f13 = some ⟨oc13, od13, .func (PySem.W.fnOf "law" "law" (defArgs sLaw) (defBody sLaw) (defScope sLaw) .none kV13 dc13 pm13 an13 cd13 ct13), sl13⟩)
    (c13 : PySem.W.codeIn K cd13 "law" = true) (k13 : PySem.W.keepIn K (.ref f13) = true)
    (z0 : PySem.W.nsIn K mainGlobals "len" = some none)
    (z1 : PySem.W.nsIn K mainGlobals "tuple" = some none)
    (z2 : PySem.W.nsIn K mainGlobals "isinstance" = some none)
    (z3 : PySem.W.nsIn K mainGlobals "abs" = some none)
    (z4 : PySem.W.nsIn K mainGlobals "int" = some none)
    (z5 : PySem.W.nsIn K mainGlobals "range" = some none)
    (z6 : PySem.W.nsIn K mainGlobals "max" = some none)
    (z7 : PySem.W.nsIn K mainGlobals "min" = some none)
    (z8 : PySem.W.nsIn K mainGlobals "repr" = some none)
    (z9 : PySem.W.nsIn K mainGlobals "list" = some none)
    (z10 : PySem.W.nsIn K mainGlobals "any" = some none)
    : ∃ fd : FuncData, (∀ (s : Shared) (v : Value), BindsTo s fd ⟨[v], []⟩ [("script", v)]) ∧ ∀ base : Heap, K.In base → base.Ns mainGlobals mg → FnG l.prog w K mg base CX0 11 fa fd ["script"] (spLaw K) := by
  have e := hfa.symm.trans (PySem.W.mg_of X G a13)
  cases e
  have F0 := fun_mk (st := sTake) l0 c0 k0
  have b0 := F0.binds (ps := ["pot", "bound"]) fun _ _ _ _ _ _ us hl => match us, hl with | [_, _], _ => rfl
  have F1 := fun_mk (st := sOf) l1 c1 k1
  have b1 := F1.binds (ps := ["pot", "some"]) fun _ _ _ _ _ _ us hl => match us, hl with | [_, _], _ => rfl
  have F2 := fun_mk (st := sGround) l2 c2 k2
  have b2 := F2.binds (ps := ["node"]) fun _ _ _ _ _ _ us hl => match us, hl with | [_], _ => rfl
  have F3 := fun_mk (st := sLeaf) l3 c3 k3
  have b3 := F3.binds (ps := ["pot"]) fun _ _ _ _ _ _ us hl => match us, hl with | [_], _ => rfl
  have F4 := fun_mk (st := sRow) l4 c4 k4
  have b4 := F4.binds (ps := ["pot", "level", "many"]) fun _ _ _ _ _ _ us hl => match us, hl with | [_, _, _], _ => rfl
  have F5 := fun_mk (st := sBlock) l5 c5 k5
  have b5 := F5.binds (ps := ["pot", "level"]) fun _ _ _ _ _ _ us hl => match us, hl with | [_, _], _ => rfl
  have F6 := fun_mk (st := sTwins) l6 c6 k6
  have b6 := F6.binds (ps := ["level"]) fun _ _ _ _ _ _ us hl => match us, hl with | [_], _ => rfl
  have F7 := fun_mk (st := sUnlike) l7 c7 k7
  have b7 := F7.binds (ps := ["node", "level"]) fun _ _ _ _ _ _ us hl => match us, hl with | [_, _], _ => rfl
  have F8 := fun_mk (st := sPot) l8 c8 k8
  have b8 := F8.binds (ps := ["script", "k"]) fun _ _ _ _ _ _ us hl => match us, hl with | [_, _], _ => rfl
  have F9 := fun_mk (st := sPool) l9 c9 k9
  have b9 := F9.binds (ps := ["pot", "level"]) fun _ _ _ _ _ _ us hl => match us, hl with | [_, _], _ => rfl
  have F10 := fun_mk (st := sMade) l10 c10 k10
  have b10 := F10.binds (ps := ["nodes"]) fun _ _ _ _ _ _ us hl => match us, hl with | [_], _ => rfl
  have F11 := fun_mk (st := sRunOf) l11 c11 k11
  have b11 := F11.binds (ps := ["node", "count"]) fun _ _ _ _ _ _ us hl => match us, hl with | [_, _], _ => rfl
  have F12 := fun_mk (st := sJoined) l12 c12 k12
  have b12 := F12.binds (ps := ["nodes"]) fun _ _ _ _ _ _ us hl => match us, hl with | [_], _ => rfl
  have F13 := fun_mk (st := sLaw) l13 c13 k13
  have Y : Facts K mg f0 f1 f2 f3 f4 f5 f6 f7 f8 f9 f10 f11 f12 _ _ _ _ _ _ _ _ _ _ _ _ _ :=
    { T := F0, gT := PySem.W.mg_of X G a0, bT := b0, O := F1, gO := PySem.W.mg_of X G a1, bO := b1, G := F2, gG := PySem.W.mg_of X G a2, bG := b2, L := F3, gL := PySem.W.mg_of X G a3, bL := b3, R := F4, gR := PySem.W.mg_of X G a4, bR := b4, B := F5, gB := PySem.W.mg_of X G a5, bB := b5, W := F6, gW := PySem.W.mg_of X G a6, bW := b6, U := F7, gU := PySem.W.mg_of X G a7, bU := b7, P := F8, gP := PySem.W.mg_of X G a8, bP := b8, Q := F9, gQ := PySem.W.mg_of X G a9, bQ := b9, M := F10, gM := PySem.W.mg_of X G a10, bM := b10, E := F11, gE := PySem.W.mg_of X G a11, bE := b11, J := F12, gJ := PySem.W.mg_of X G a12, bJ := b12, len := PySem.W.mg_none_of X G z0, tuple := PySem.W.mg_none_of X G z1, isinstance := PySem.W.mg_none_of X G z2, abs := PySem.W.mg_none_of X G z3, int := PySem.W.mg_none_of X G z4, range := PySem.W.mg_none_of X G z5, max := PySem.W.mg_none_of X G z6, min := PySem.W.mg_none_of X G z7, repr := PySem.W.mg_none_of X G z8, list := PySem.W.mg_none_of X G z9, any := PySem.W.mg_none_of X G z10 }
  exact ⟨_, fun s v => .of_eq rfl, fun base _ _ => ok_law F13 Y⟩
end C05
open PySem PySem.W PyProof.Rows
set_option maxHeartbeats 0 in
theorem PySem.Challenge.cw_localblocks_k05_runs_made_holds : PySem.Challenge.rw_localblocks_k05_runs_made.Holds := by
  w_on; o_law; k_head; (case hw => w_witness2)
  k_fill
  refine Loc.walkG (l := PySem.Challenge.rw_localblocks_k05_runs_made) (n := 63) (k := 11) (x := "script") (sp := fun K => C05.spLaw K) rfl (by decide) rfl ⟨rfl, by decide, by decide⟩ (fun w h Y => PySem.W.kIn_of Y) ?F (fun K _ a ns hl hS => ⟨a, ns, rfl, hS, hl, fun _ => rfl⟩)
  case F =>
    intro w mg fa h KX G hmg
    refine' C05.all_mk KX G hmg ?a0 ?l0 ?c0 ?k0 ?a1 ?l1 ?c1 ?k1 ?a2 ?l2 ?c2 ?k2 ?a3 ?l3 ?c3 ?k3 ?a4 ?l4 ?c4 ?k4 ?a5 ?l5 ?c5 ?k5 ?a6 ?l6 ?c6 ?k6 ?a7 ?l7 ?c7 ?k7 ?a8 ?l8 ?c8 ?k8 ?a9 ?l9 ?c9 ?k9 ?a10 ?l10 ?c10 ?k10 ?a11 ?l11 ?c11 ?k11 ?a12 ?l12 ?c12 ?k12 ?a13 ?l13 ?c13 ?k13 ?z0 ?z1 ?z2 ?z3 ?z4 ?z5 ?z6 ?z7 ?z8 ?z9 ?z10
    (case a0 => k_is)
    (case l0 => k_is)
    (case c0 => k_is)
    (case k0 => k_is)
    (case a1 => k_is)
    (case l1 => k_is)
    (case c1 => k_is)
    (case k1 => k_is)
    (case a2 => k_is)
    (case l2 => k_is)
    (case c2 => k_is)
    (case k2 => k_is)
    (case a3 => k_is)
    (case l3 => k_is)
    (case c3 => k_is)
    (case k3 => k_is)
    (case a4 => k_is)
    (case l4 => k_is)
    (case c4 => k_is)
    (case k4 => k_is)
    (case a5 => k_is)
    (case l5 => k_is)
    (case c5 => k_is)
    (case k5 => k_is)
    (case a6 => k_is)
    (case l6 => k_is)
    (case c6 => k_is)
    (case k6 => k_is)
    (case a7 => k_is)
    (case l7 => k_is)
    (case c7 => k_is)
    (case k7 => k_is)
    (case a8 => k_is)
    (case l8 => k_is)
    (case c8 => k_is)
    (case k8 => k_is)
    (case a9 => k_is)
    (case l9 => k_is)
    (case c9 => k_is)
    (case k9 => k_is)
    (case a10 => k_is)
    (case l10 => k_is)
    (case c10 => k_is)
    (case k10 => k_is)
    (case a11 => k_is)
    (case l11 => k_is)
    (case c11 => k_is)
    (case k11 => k_is)
    (case a12 => k_is)
    (case l12 => k_is)
    (case c12 => k_is)
    (case k12 => k_is)
    (case a13 => k_is)
    (case l13 => k_is)
    (case c13 => k_is)
    (case k13 => k_is)
    (case z0 => k_is)
    (case z1 => k_is)
    (case z2 => k_is)
    (case z3 => k_is)
    (case z4 => k_is)
    (case z5 => k_is)
    (case z6 => k_is)
    (case z7 => k_is)
    (case z8 => k_is)
    (case z9 => k_is)
    (case z10 => k_is)


