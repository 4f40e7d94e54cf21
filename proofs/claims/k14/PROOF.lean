import PyProof.Rows.All
import Wide.All
import OpenK.AllK
import Wide.FinOn
import HandS.ForMost
import HandS.Conv
import HandS.Zip
import HandS.Walk
import HandS.IsInst
import HandS.Wide
import HandS.EndBits
import HandS.TupAny
import HandS.TupMul
import HandS.Style
import HandS.Deep
import HandS.NoneIn
import HandS.TupLe
import KE.GoesMore
import KE.GoesZip
import HandS.Dict
import HandS.Codes
import HandS.Exc
import HandS.ExcOwn
import HandS.WordsExc
import HandS.ExcField
import HandS.ExcInit
import KE.KExcIs
import HandS.DictTup
import HandS.RevTup
import HandS.DictSubView
import HandS.Iter
import KE.DataMinMax
import KE.KDictSum
import HandS.DictComp
import HandS.Star
import KE.KEqDict
import PyProof.EqKinds
import PyProof.FactsAll.dict_1
import HandS.Text
import HandS.StrMore
import HandS.FStr
import PyProof.Rows.IntBool
import HandS.SetFor
import HandS.Strs
import PySem.Challenge.RW_postvote_k14_margin_certificates_judged
set_option Elab.async false
set_option linter.all false
set_option maxRecDepth 100000
namespace Pv
open PySem PySem.Spec PyProof.Rows L2

/-! heaps -/
theorem upNew {H : Hp} {p b : Addr} {o z : HO} (np : H p = none) (h : H b = some z) : upd H p o b = some z := by
  rw [upd_ne (ne_of_none h np)]; exact h
theorem sameNew {H : Hp} {p : Addr} {o : HO} (np : H p = none) : Same H (upd H p o) := fun _ _ e => upNew np e

/-! a def that is called where no repr is under way -/
structure FnG (P : Program) (w : World) (K : PySem.W.Frag) (mg : Str → Option Value) (base : Heap) (k : Nat) (f : Addr) (fd : FuncData) (ps : List Str) (sp : Sp) : Prop where
  cnt : ∀ vs H Q E, sp vs H Q E → vs.length = ps.length
  go : ∀ (A : Around) (outer : List Env) (s : Shared) (H : Hp) (args : Args) (us : List Value) (vs : List V) (Q : VK) (E : XK),
    A.guards = some [] → Room k A → Env0 P w K mg base A outer s H → BindsTo s fd args (ps.zip us) → Vals vs us →
    sp vs H Q E → codeAny (model P w) A (.call (.ref f) args) (CR CX0 outer P w H s Q E) s
section
variable {P : Program} {w : World} {K : PySem.W.Frag} {mg : Str → Option Value} {base : Heap}
theorem okG {x qual : Str} {st : Stmt} {f : Addr} {fd : FuncData} {N ps : List Str} {k : Nat} {sp : Sp}
    (F : Fun K x qual st f fd) (S : FnScope N ps (defScope st)) (cnt : ∀ vs H Q E, sp vs H Q E → vs.length = ps.length)
    (hbody : ∀ (cdv : Value) (A : Around) (outer : List Env) (s : Shared) (H : Hp) (vs : List V) (Q : VK) (E : XK),
      A.guards = some [] → Room k (A.deeper (envOfC qual (defScope st) s.heap.objs.size f cdv)) → sp vs H Q E →
      ∃ t, PSs (cxOf CX0 P w K mg base N qual (defScope st) f cdv A outer s H E).nox (defBody st) t ∧
        t { nx := fun _ H' => Q .non H', rt := Q } (start N vs) H) : FnG P w K mg base (k + 1) f fd ps sp := by
  obtain ⟨oc, od, kV, doc, pm, an, cdv, ct, osl, rfl, lk, hcd⟩ := F.ex
  refine ⟨cnt, ?_⟩
  intro A outer s H args us vs Q E hgd hr e0 hb r hsp
  have hl := cnt vs H Q E hsp
  have kk : ∀ b o, base.get? b = some o → s.heap.get? b = some o := fun b o e => (e0.bs b o e).1
  have KX : K.In s.heap := e0.mod.kin.keeps kk
  have lim : s.heap.NoLimit := e0.mod.nolimit.keeps kk
  refine codeAny_call_function hr.depth (KX _ _ lk) rfl S.co S.gen rfl (PySem.W.codeRec_of KX hcd)
    (hb _ _ _ _ (wpAny_newFunctionEnv_cells S.kind ?_ ?_))
  · rintro ⟨n, v⟩ hy
    rcases S.par n (List.of_mem_zip hy).1 with q | q
    · left; exact q
    · right; exact ⟨q, PySem.W.cellsFrom_some _ _ _ (Or.inl q)⟩
  · intro env he s1 x
    cases he
    refine ⟨lim.keeps x.toInCall.keep, ?_⟩
    apply codeAny_func
    obtain ⟨t, ht0, hq⟩ := hbody cdv A outer s H vs Q E hgd (hr.deeper _) hsp
    have ht := ht0.nox
    have I := inv_start (CX := CX0) (f := f) (qual := qual) (E := E) S hr.hd e0 hl r x
    refine wpAny_mono (ht.run [] s1 (start N vs) H _ I hq) ?_ (fun _ _ z => z)
    intro fl s' hs
    cases fl with
    | ret u => obtain ⟨v, σ', H', J, rv, q⟩ := hs; exact ⟨v, H', J.os, J.bare, J.base, J.hok, rv, q⟩
    | next => obtain ⟨σ', H', J, q⟩ := hs; exact ⟨V.non, H', J.os, J.bare, J.base, J.hok, rfl, q⟩
    | brk => obtain ⟨_, _, _, q⟩ := hs; exact q.elim
    | cont => obtain ⟨_, _, _, q⟩ := hs; exact q.elim
end
section
variable {X : Cx} {k : Nat} {f : Addr} {fd : FuncData} {ps : List Str} {sp : Sp} {x : Str} {p pos : Pos} {e : Expr} {es : List Expr} {t : TA}
theorem pe_callG (F : FnG X.prog X.w X.K X.mg X.base k f fd ps sp) (hgd : X.A.guards = some []) (hr : Room k X.A) (hg : Gl X x)
    (hm : X.mg x = some (.ref f)) (hk : PySem.W.keepIn X.K (.ref f) = true) (hb : Binds X.K fd ps []) (ha : PA X (e :: es) t)
    (hdb : (x == ("__debug__" : Str)) = false := by decide) (he : starEach (e :: es) X.env = (false, eval e X.env) :: starEach es X.env := by rfl)
    (hpl : (backTo pos (starEach es X.env)).any (·.1) = false := by rfl) :
    PE X (.Call (.Name x p) (e :: es) [] pos) (tCall sp [] E0 t) := by
  constructor
  intro pins s σ H Q I h
  refine wpAny_Call_Name_kw (ld_glob I hg hm ?_ hdb)
  refine PySem.W.callWith_K (h₀ := X.base) I.ok.mod.kin hk (thn (ha.run pos pins s σ H _ I h) ?_) he hpl
  rintro us s1 ⟨vs, H1, I1, r, q⟩
  refine ⟨I1.kIn, ?_⟩
  have r2 : Vals (vs ++ []) (us ++ []) := r.append .nil
  have hl : (us ++ []).length = ps.length := by rw [← r2.length]; exact F.cnt _ _ _ _ q
  refine wpAny_call (codeAny_mono (F.go X.A X.stack s1 H1 ⟨us, []⟩ (us ++ []) (vs ++ []) Q E0 hgd hr I1.env0 (hb s1 us I1.kIn hl) r2 q) ?_)
  intro rr s' hq
  match rr, hq with
  | .error e, hq => exact hq.elim
  | .ok (.ret u), hq => exact I1.after hq
  | .ok .next, hq => exact hq.elim
  | .ok .brk, hq => exact hq.elim
  | .ok .cont, hq => exact hq.elim
end
theorem lawG {P : Program} {w : World} {K : PySem.W.Frag} {mg mb : Str → Option Value} {k : Nat} {fa a : Addr} {fd : FuncData} {x : Str} {sp : Sp}
    {s₁ : Shared} {vs : List Value} {ns : List Int} (KX : K.In s₁.heap) (hns : s₁.heap.Ns mainGlobals mg) (hb : s₁.heap.Ns builtinsNs mb)
    (hbb : ∀ x : Str, x ≠ "__name__" → mb x = bootBuiltins x) (hlim : s₁.heap.NoLimit) (hg : s₁.gens = #[])
    (ha : s₁.heap.get? a = some { cls := .type "list", data := .seq vs.toArray }) (hi : IntsAre vs ns) (hl : ns.length ≤ sizeLine)
    (hr : Room k callerA) (F : ∀ base : Heap, K.In base → base.Ns mainGlobals mg → FnG P w K mg base k fa fd [x] sp)
    (hbind : ∀ (s : Shared) (u : Value), BindsTo s fd ⟨[u], []⟩ [(x, u)])
    (hsp : ∀ H : Hp, Only H → SqL K H a (ns.map V.int) → sp [.ref a] H (fun v _ => v = .bl true) E0) :
    codeAny (model P w) callerA (.call (.ref fa) ⟨[.ref a], []⟩)
      (fun r s' => r = .ok (.ret (.bool true)) ∧ OldK s₁.heap s'.heap ∧ s'.os = s₁.os ∧ AllBare s'.gens) s₁ := by
  have rv := vals_ints hi
  have lenV := hi.length
  have core : ∀ H : Hp, Only H → SqL K H a (ns.map V.int) → HOk P w H s₁.heap → (∀ b, H b ≠ none → b = a) → (H a ≠ none → K.lookup a = none) →
      codeAny (model P w) callerA (.call (.ref fa) ⟨[.ref a], []⟩)
        (fun r s' => r = .ok (.ret (.bool true)) ∧ OldK s₁.heap s'.heap ∧ s'.os = s₁.os ∧ AllBare s'.gens) s₁ := by
    intro H hO hS hok hA hK
    have noD : ∀ {b : Addr} {o : Obj} {es : Array DictEntry} {ep : Nat}, s₁.heap.get? b = some o → o.data = .dict es ep → H b = none := by
      intro b o es ep e d
      match q : H b with
      | none => rfl
      | some u =>
        obtain rfl : b = a := hA b (by rw [q]; simp)
        rw [ha] at e
        cases e
        exact absurd d (by intro z; cases z)
    have nsK : ∀ {b : Addr} {m : Str → Option Value}, s₁.heap.Ns b m → (hidT s₁.heap H).Ns b m := by
      rintro b m ⟨o, es, ep, e, d, r⟩
      exact ⟨o, es, ep, hidT_get e (noD e d), d, r⟩
    have hKb : K.In (hidT s₁.heap H) := by
      intro b o e
      refine hidT_get (KX b o e) ?_
      match q : H b with
      | none => rfl
      | some u =>
        obtain rfl : b = a := hA b (by rw [q]; simp)
        rw [hK (by rw [q]; simp)] at e
        cases e
    have hM : Mod K mg (hidT s₁.heap H) := by
      obtain ⟨mc, h1, h2⟩ := hlim
      exact ⟨hKb, nsK hns, ⟨mb, nsK hb, hbb⟩, ⟨mc, nsK h1, h2⟩⟩
    have e0 : Env0 P w K mg (hidT s₁.heap H) callerA [] s₁ H :=
      ⟨rfl, hM, fun b o e => of_hidT e, Nat.le_of_eq (hidT_size _ _), trivial, (fun b hb => by cases hb), hok, .of_eq hg⟩
    refine codeAny_mono ((F _ hKb (nsK hns)).go callerA [] s₁ H ⟨[.ref a], []⟩ [.ref a] [.ref a] _ _ rfl hr e0 (hbind s₁ (.ref a)) (.cons rfl .nil) (hsp H hO hS)) ?_
    intro r s' h
    match r, h with
    | .error e, h => exact h.elim
    | .ok .next, h => exact h.elim
    | .ok .brk, h => exact h.elim
    | .ok .cont, h => exact h.elim
    | .ok (.ret u), h =>
      obtain ⟨v, H', os, bare, un, hok', r', q⟩ := h
      cases (show v = V.bl true from q)
      cases (show u = Value.bool true from r')
      refine ⟨rfl, OldK.of_keep ?_, os, bare⟩
      intro b o e
      match q : H b with
      | none => exact un.keep b o e q (by intro z; cases z) (by intro z; cases z)
      | some u =>
        rcases hO b with z | ⟨ob, xs, z⟩
        · rw [q] at z; cases z
        · obtain ⟨e1, _⟩ := hok b _ z
          obtain ⟨e2, _⟩ := hok' b _ (un.frzs b ob _ z)
          rw [e] at e1
          cases e1
          exact e2
  match hk : K.lookup a with
  | some o =>
    have e := KX a o hk
    rw [ha] at e
    cases e
    refine core (fun _ => none) (fun _ => .inl rfl) (.inr ⟨_, vs.toArray, _, hk, rfl, rfl, rfl, ?_, by simpa using rv⟩) (fun b u z => by cases z) (fun b z => absurd rfl z) (fun z => absurd rfl z)
    rw [List.size_toArray, lenV]; exact hl
  | none =>
    let HA : Hp := fun b => if b = a then some (.frz { cls := .type "list", data := .seq vs.toArray } (.lst (ns.map V.int))) else none
    have at_a : HA a = some (.frz { cls := .type "list", data := .seq vs.toArray } (.lst (ns.map V.int))) := if_pos rfl
    have at_ne : ∀ b, b ≠ a → HA b = none := fun b h => if_neg h
    refine core HA ?_ (.inl (.inr ⟨_, at_a⟩)) ?_ ?_ (fun _ => hk)
    · intro b
      by_cases hb : b = a
      · subst hb; exact .inr ⟨_, _, at_a⟩
      · exact .inl (at_ne b hb)
    · intro b u z
      by_cases hb : b = a
      · subst hb
        rw [at_a] at z
        cases z
        exact ⟨ha, by rw [List.length_map]; exact hl, vs, _, rv, ha⟩
      · rw [at_ne b hb] at z; cases z
    · intro b z
      by_cases hb : b = a
      · exact hb
      · exact absurd (at_ne b hb) z
theorem walkG {l : PySem.W.OpenLaw} {n k : Nat} {q : Program} {loose : List Str} {XP : (Str → Option Value) → Heap → Prop} {YP : World → Heap → Prop}
    {d : DefRec} {K : Params → PySem.W.Frag} {sp : World → Sp} {x : Str} (hn : l.most = some n) (hn2 : n ≤ sizeLine) (hdf : d.params.defaults = [])
    (hr : Room k callerA) (hY : ∀ (w : World) (h : Heap), YP w h → (K w.params).In h)
    (F : ∀ (w : World) (mg : Str → Option Value) (fa : Addr) (h : Heap), (K w.params).In h → h.Ns mainGlobals mg → mg d.name = some (.ref fa) →
      ∃ fd : FuncData, (∀ (s : Shared) (u : Value), BindsTo s fd ⟨[u], []⟩ [(x, u)]) ∧
        ∀ base : Heap, (K w.params).In base → base.Ns mainGlobals mg → FnG l.prog w (K w.params) mg base k fa fd [x] (sp w))
    (hsp : ∀ (w : World) (H : Hp) (a : Addr) (ns : List Int), ns.length ≤ n → (∀ z ∈ ns, Builtin.Int.intBits z ≤ 1048576) → Only H →
      SqL (K w.params) H a (ns.map V.int) → sp w [.ref a] H (fun v _ => v = .bl true) E0) :
    PySem.W.WalkO q loose XP YP l.row.toRowW d [] (fun f vs => PySem.call f vs) := by
  refine Att.attach_callB hn hdf ?_
  intro w s₀ s₁ mg mb fa o pm cd doc a vs ns G Y ho hd hcd hmg hobj hints hlen hbits hg
  have KX := hY w _ Y
  obtain ⟨fd, hb, hF⟩ := F w mg fa _ KX G.T.g hmg
  exact lawG KX G.T.g G.T.b G.T.builtins G.T.nolimit hg hobj hints (Nat.le_trans hlen hn2) hr hF hb (fun H hO hS => hsp w H a ns hlen hbits hO hS)

/-! repr of data -/
theorem call_reprD {X : Cx} (hg : X.A.guards = some []) (hu : X.A.units + 70 < cLine) : CallR X (.builtin "repr")
    (fun xs H Q => ∃ a d, xs = [.ref a] ∧ Dp X.K H (.ref a) d ∧ d.showable = true ∧ d.hasDict = false ∧ d.depth ≤ 60 ∧
      d.shown.length ≤ sizeLine ∧ Q (.str d.shown) H) := by
  intro pins s σ H xs us Q I r h
  obtain ⟨a, d, rfl, hd, h1, h2, h3, h4, q⟩ := h
  obtain ⟨u, rfl, rfl⟩ := vals1 r
  obtain ⟨as, rd⟩ := Dp.reads I d _ _ hd rfl
  exact repr_of_reads' rd h1 (PyData.noDict_hsm h2) hg (by omega) (fun _ _ e => e) (fun h' u tk hk => ⟨.str _, H, I.kept hk, ⟨_, rfl⟩, q⟩) h4
end Pv

namespace Pv
open PySem PySem.Spec PyProof.Rows L2
theorem tup_mul0 (l : Addr) (items : Array Value) (n : Nat) (dd : Option Addr) (sl : Array (Option Value)) (u : Tok) (hi : items.isEmpty = false) :
    Meets (Builtin.«tuple.__mul__» ⟨[.ref l, .int ((0 : Nat) : Int) u], []⟩) (fun _ R s => s.heap.get? l = some { cls := .type "tuple", dict := dd, data := .seq items n, slots := sl } ∧
      R (.ok (.ret (Value.ref s.heap.objs.size))) { s with heap := s.heap.push { cls := Value.type "tuple", data := Data.seq #[] }, toks := s.toks }) :=
  .of_wp fun prog w A R s h => by
    obtain ⟨hp, g, d, tk, os⟩ := s
    obtain ⟨hl, h⟩ := h
    have f1 := AutoSeq1.idx_int
    wp_walk using AutoSeq1.wpAny_loadPart' hl
    repeat (first
      | (refine wpAny_ite_false (decide_eq_false (by simp [hi])) ?_; wp_walk using AutoSeq1.wpAny_loadPart' hl)
      | (refine wpAny_ite_true (decide_eq_true (by simp [hi])) ?_; wp_walk using AutoSeq1.wpAny_loadPart' hl))
    exact ⟨_, rfl, h⟩
theorem tup_mul1 (l : Addr) (items : Array Value) (n : Nat) (dd : Option Addr) (sl : Array (Option Value)) (u : Tok) :
    Meets (Builtin.«tuple.__mul__» ⟨[.ref l, .int ((1 : Nat) : Int) u], []⟩) (fun _ R s => s.heap.get? l = some { cls := .type "tuple", dict := dd, data := .seq items n, slots := sl } ∧
      R (.ok (.ret (Value.ref l))) s) :=
  .of_wp fun prog w A R s h => by
    obtain ⟨hp, g, d, tk, os⟩ := s
    obtain ⟨hl, h⟩ := h
    have f1 := AutoSeq1.idx_int
    wp_walk using AutoSeq1.wpAny_loadPart' hl
    repeat (first
      | (refine wpAny_ite_false (decide_eq_false (by simp)) ?_; wp_walk using AutoSeq1.wpAny_loadPart' hl)
      | (refine wpAny_ite_true (decide_eq_true (by simp)) ?_; wp_walk using AutoSeq1.wpAny_loadPart' hl))
    exact ⟨_, rfl, h⟩
def rRepA (K : PySem.W.Frag) : R2 := fun x y H Q => ∃ (l : Addr) (k : Nat) (xs : List V), x = .ref l ∧ y = .int k ∧ SqT K H l xs ∧ xs ≠ [] ∧ k ≤ 1000 ∧ xs.length ≤ 1000 ∧
    (k = 1 → Q (.ref l) H) ∧ (k ≠ 1 → ∀ p, H p = none → Q (.ref p) (upd H p (.tup (List.replicate k xs).flatten)))
abbrev RC := List V → Hp → VK → Prop
def rLenQ (K : PySem.W.Frag) : RC := fun xs H Q => ∃ (p : Addr) (ys : List V), xs = [.ref p] ∧ (SqL K H p ys ∨ SqT K H p ys) ∧ Q (.int ys.length) H
def rTupQ (K : PySem.W.Frag) : RC := fun xs H Q => ∃ (p : Addr) (ys : List V), xs = [.ref p] ∧ ((SqL K H p ys ∧ ∀ l, H l = none → Q (.ref l) (upd H l (.tup ys))) ∨ (SqT K H p ys ∧ Q (.ref p) H))
section
variable {X : Cx}
theorem call_lenQ : CallR X (.builtin "len") (rLenQ X.K) := call_len_seq
theorem call_tupQ : CallR X (.type "tuple") (rTupQ X.K) := call_tuple_of
/-- o[i] of a list, for o[i] += e -/
theorem get_list : PGet X (fun o i H Q => ∃ (p : Addr) (xs : List V) (j : Nat) (v : V), o = .ref p ∧ i = .int j ∧ SqL X.K H p xs ∧ xs[j]? = some v ∧ Q v H) := by
  intro pins s σ H o i ov iv Q I ro ri h
  obtain ⟨p, xs, j, v, rfl, rfl, hq, he, q⟩ := h
  cases ro
  obtain ⟨t, rfl⟩ := ri
  obtain ⟨its, r, pl, hz⟩ := I.list hq
  obtain ⟨u, eu, ru⟩ := r.get he
  have hj : j < its.length := (List.getElem?_eq_some_iff.mp eu).1
  have hl := r.length
  have hn := line63
  exact wpAny_getItem_list pl.isList (by omega) (by omega) (by simpa using eu) ⟨v, H, I, ru, q⟩
/-- tuple * int -/
theorem op_repA : OpR X (binaryOp .Mult) (rRepA X.K) := by
  intro pins s σ H x y v u Q I rx ry h
  obtain ⟨l, k, xs, rfl, rfl, hT, hne, h2, hz, q1, q2⟩ := h
  by_cases hk2 : 2 ≤ k
  · exact op_repT pins s σ H _ _ v u Q I rx ry ⟨l, k, xs, rfl, rfl, hT, hne, by omega, by omega, hz, by simpa using q2 (by omega)⟩
  cases rx
  obtain ⟨t, rfl⟩ := ry
  obtain ⟨its, r, ⟨⟨cls, dd, data, sl⟩, ho, hc, n, hd⟩, hs⟩ := I.tuple hT
  simp only at hc hd
  subst hc hd
  have hi : its.toArray.isEmpty = false := by
    cases its with
    | nil => exact absurd (List.eq_nil_of_length_eq_zero (by simpa using r.length)) hne
    | cons a b => rfl
  refine wpAny_binaryOp_repeat_ref (T := "tuple") (U := "int") (by decide) ⟨_, ho, rfl⟩ (fun s' => typeIs_int s' k t) noFill_tuple_mul F.fills_int_mul F.slot_int_rmul repeat_tuple F.slot_int_index.lookup
    (call_meets F.slot_int_rmul (typeIs_int s k t) F.entry_int_rmul (F.args_int_rmul_2 _ _) (int_rmul_tuple k t l its.toArray n dd sl)
      ⟨ho, rfl, ⟨_, ho, rfl⟩, ?_⟩)
  obtain hk | hk : k = 0 ∨ k = 1 := by omega
  · subst hk
    refine call_meets F.slot_tuple_mul (show s.TypeIs (.ref l) "tuple" from ⟨_, ho, rfl⟩) F.entry_tuple_mul (F.args_tuple_mul_2 _ _) (tup_mul0 l its.toArray n dd sl t hi) ⟨ho, ?_⟩
    refine ⟨.ref s.heap.objs.size, _, I.laid (t' := s.toks) (o := .tup []) (fun b ob q => Heap.get?_push_of_some _ q) (Nat.le_refl _) ?_, rfl, q2 (by decide) _ (I.hok.fresh (Nat.le_refl _))⟩
    exact ⟨Nat.zero_le _, [], .nil, IsTup.new _ _⟩
  · subst hk
    exact call_meets F.slot_tuple_mul (show s.TypeIs (.ref l) "tuple" from ⟨_, ho, rfl⟩) F.entry_tuple_mul (F.args_tuple_mul_2 _ _) (tup_mul1 l its.toArray n dd sl t) ⟨ho, ⟨.ref l, H, I, rfl, q1 rfl⟩⟩
/-- sum of a tuple of ints -/
theorem call_sumT (hc : X.calm = true) : CallR X (.builtin "sum") (fun xs H Q => ∃ (a : Addr) (ns : List Int), xs = [.ref a] ∧ SqT X.K H a (ns.map V.int) ∧ Q (.int ns.sum) H) := by
  intro pins s σ H xs us Q I r h
  obtain ⟨a, ns, rfl, hT, q⟩ := h
  obtain ⟨u, rfl, rfl⟩ := vals1 r
  obtain ⟨its, rv, ht, hz⟩ := I.tuple hT
  have hi : IntsAre its ns := rv.ints
  obtain ⟨ys, e⟩ := hi.allInts.items
  have hn : numsOf (intItems ys).toList = ns := by rw [← e]; exact hi.numsOf
  rw [nums_intItems] at hn
  rw [e] at ht
  have ht' : s.heap.IsTuple a (intItems ys) := ht
  have hlt : a < s.heap.objs.size := by obtain ⟨_, z, _⟩ := ht; exact Heap.lt_size z
  refine call_sum_walkG (wpAny_pyIter_tuple ht' ?_)
  refine ⟨_, _, _, _, _, _, numAt ys, rfl, Walks.tuple (A := X.A.in1) (I.ok.hd hc) _ a (Nat.ne_of_lt hlt) (intItems ys), ⟨⟨_, Heap.get?_push_size _ rfl, rfl, rfl⟩, ht'.push _⟩, ?_, (fun _ _ => intItems_at), ?_⟩
  · intro b hb
    show b < (s.heap.push _).objs.size
    rw [Heap.size_push]
    simp only [List.mem_cons, List.not_mem_nil, or_false] at hb
    rcases hb with rfl | rfl
    · exact Nat.lt_succ_self _
    · exact Nat.lt_succ_of_lt hlt
  · intro h' tk t' hk
    have eq : preSum (numAt ys) (intItems ys).size = ns.sum := by
      rw [preSum_eq, List.take_of_length_le (by simp [intItems]), hn]
    rw [eq]
    refine ⟨.int _, H, I.kept (t' := tk) (h' := h') ?_, ⟨_, rfl⟩, q⟩
    intro b o eb
    refine hk b o (fun hm => ?_) (Heap.get?_push_of_some _ eb)
    exact absurd (Heap.lt_size eb) ((List.mem_singleton.mp hm) ▸ Nat.lt_irrefl _)
end
theorem walk_zipT {K : PySem.W.Frag} {a b : Addr} {xs ys : List V} {n : Nat} (hn : n = min xs.length ys.length) :
    Walk (RZ.ItzT K a b) n (fun H => SqT K H a xs ∧ SqT K H b ys) (YPair (fun i => xs[i]?) (fun i => ys[i]?)) := by
  subst hn
  constructor
  · rintro i H hi ⟨q1, q2⟩
    have h1 : i < xs.length := by omega
    have h2 : i < ys.length := by omega
    exact ⟨xs, ys, xs[i], ys[i], q1, q2, by simp [h1], by simp [h2]⟩
  · rintro H ⟨q1, q2⟩
    exact ⟨xs, ys, q1, q2, by omega⟩
  · rintro i H v H' _ ⟨q1, q2⟩ ⟨T, x, z, h1, h2, h3, h4, h5⟩
    exact ⟨T, x, z, h1, h2, h3, h4 xs q1, h5 ys q2⟩
end Pv

namespace Pv
open PySem PySem.Spec PyProof.Rows L2

/-! tuples never change -/
def TupK (H H' : Hp) : Prop := ∀ b xs, (H b = some (.tup xs) → H' b = some (.tup xs)) ∧ ∀ u, H b = some (.frz u (.tup xs)) → H' b = some (.frz u (.tup xs))
theorem TupK.refl (H : Hp) : TupK H H := fun _ _ => ⟨id, fun _ => id⟩
theorem TupK.trans {H H1 H2 : Hp} (a : TupK H H1) (b : TupK H1 H2) : TupK H H2 := fun c xs => ⟨fun h => (b c xs).1 ((a c xs).1 h), fun u h => (b c xs).2 u ((a c xs).2 u h)⟩
theorem TupK.rd {H H' : Hp} (s : TupK H H') {b : Addr} {xs : List V} (h : Rd H b (.tup xs)) : Rd H' b (.tup xs) := by
  rcases h with h | ⟨o, h⟩
  · exact .inl ((s _ _).1 h)
  · exact .inr ⟨o, (s _ _).2 o h⟩
theorem TupK.of {H H' : Hp} (s : Same H H') : TupK H H' := fun _ _ => ⟨fun h => s _ _ h, fun _ h => s _ _ h⟩
theorem TupK.new {H : Hp} {p : Addr} {o : HO} (np : H p = none) : TupK H (upd H p o) := .of (sameNew np)
theorem TupK.put {H : Hp} {p : Addr} {o : HO} {ys : List V} (e : H p = some (.lst ys)) : TupK H (upd H p o) := by
  intro b xs
  refine ⟨fun h => ?_, fun u h => ?_⟩
  · rw [upd_ne (ne_of h e (by intro z; cases z))]; exact h
  · rw [upd_ne (ne_of h e (by intro z; cases z))]; exact h
theorem TupK.sq {K : PySem.W.Frag} {H H' : Hp} {a : Addr} {xs : List V} (s : TupK H H') (h : SqT K H a xs) : SqT K H' a xs := by
  rcases h with h | h
  · exact .inl (s.rd h)
  · exact .inr h

mutual
def tupOnly : PyData → Bool
  | .none | .bool _ | .int _ | .str _ => true
  | .tuple xs => tupOnlyAll xs
  | .list _ | .dict _ => false
def tupOnlyAll : List PyData → Bool
  | [] => true
  | x :: xs => tupOnly x && tupOnlyAll xs
end
mutual
theorem TupK.dp {K : PySem.W.Frag} {H H' : Hp} (s : TupK H H') : ∀ (d : PyData) (v : V), tupOnly d = true → Dp K H v d → Dp K H' v d
  | .none, v, _, h => by cases h; exact .non
  | .bool b, v, _, h => by cases h; exact .bl _
  | .int b, v, _, h => by cases h; exact .int _
  | .str b, v, _, h => by cases h; exact .str _
  | .tuple xs, v, t, h => by
    cases h with
    | tup hs ha => exact .tup (s.sq hs) (TupK.dpAll s xs _ (by simpa [tupOnly] using t) ha)
  | .list _, v, t, _ => by simp [tupOnly] at t
  | .dict _, v, t, _ => by simp [tupOnly] at t
theorem TupK.dpAll {K : PySem.W.Frag} {H H' : Hp} (s : TupK H H') : ∀ (ds : List PyData) (vs : List V), tupOnlyAll ds = true → DpAll K H vs ds → DpAll K H' vs ds
  | [], vs, _, h => by cases h; exact .nil
  | d :: ds, vs, t, h => by
    have t' : tupOnly d = true ∧ tupOnlyAll ds = true := by simpa [tupOnlyAll] using t
    cases h with
    | cons h1 h2 => exact .cons (TupK.dp s d _ t'.1 h1) (TupK.dpAll s ds _ t'.2 h2)
end
theorem tupOnlyAll_of {ds : List PyData} (h : ∀ d ∈ ds, tupOnly d = true) : tupOnlyAll ds = true := by
  induction ds with
  | nil => simp [tupOnlyAll]
  | cons d ds ih => simp [tupOnlyAll, h d (by simp), ih (fun e he => h e (by simp [he]))]

/-! data -/
abbrev Gp := List Int × Int
def dI (ns : List Int) : PyData := .tuple (ns.map .int)
def dGrp (g : Gp) : PyData := .tuple [dI g.1, .int g.2]
def dInst (cs : List Int) (gs : List Gp) : PyData := .tuple [dI cs, .tuple (gs.map dGrp)]
def dAsg (rows : List (List Int)) : PyData := .tuple (rows.map dI)
theorem to_ints (ns : List Int) : tupOnlyAll (ns.map PyData.int) = true := tupOnlyAll_of (by intro d hd; obtain ⟨n, _, rfl⟩ := List.mem_map.mp hd; simp [tupOnly])
theorem to_dI (ns : List Int) : tupOnly (dI ns) = true := by simp [dI, tupOnly, to_ints]
theorem to_dGrp (g : Gp) : tupOnly (dGrp g) = true := by simp [dGrp, tupOnly, tupOnlyAll, to_dI]
theorem to_grps (gs : List Gp) : tupOnlyAll (gs.map dGrp) = true := tupOnlyAll_of (by intro d hd; obtain ⟨n, _, rfl⟩ := List.mem_map.mp hd; exact to_dGrp n)
theorem to_rows (rs : List (List Int)) : tupOnlyAll (rs.map dI) = true := tupOnlyAll_of (by intro d hd; obtain ⟨n, _, rfl⟩ := List.mem_map.mp hd; exact to_dI n)
theorem to_dInst (cs : List Int) (gs : List Gp) : tupOnly (dInst cs gs) = true := by simp [dInst, tupOnly, tupOnlyAll, to_dI, to_grps]
theorem to_dAsg (rs : List (List Int)) : tupOnly (dAsg rs) = true := by simp [dAsg, tupOnly, to_rows]

section
variable {K : PySem.W.Frag} {H : Hp}
theorem DpAll.len : ∀ {vs : List V} {ds : List PyData}, DpAll K H vs ds → vs.length = ds.length
  | _, _, .nil => rfl
  | _, _, .cons _ t => by simp [DpAll.len t]
theorem DpAll.ints : ∀ {ns : List Int} {vs : List V}, DpAll K H vs (ns.map PyData.int) → vs = ns.map V.int
  | [], _, h => by cases h; rfl
  | n :: ns, _, h => by
    cases h with
    | cons h1 h2 => cases h1; rw [DpAll.ints h2]; rfl
theorem dp_ints : ∀ (ns : List Int), DpAll K H (ns.map V.int) (ns.map PyData.int)
  | [] => .nil
  | n :: ns => .cons (.int n) (dp_ints ns)
theorem DpAll.at : ∀ {vs : List V} {ds : List PyData} {i : Nat} {v : V}, DpAll K H vs ds → vs[i]? = some v → ∃ d, ds[i]? = some d ∧ Dp K H v d
  | _, _, _, _, .nil, e => by simp at e
  | _, _, 0, _, .cons h _, e => by simp at e; subst e; exact ⟨_, rfl, h⟩
  | _, _, i + 1, v, .cons _ t, e => by
    obtain ⟨d, h1, h2⟩ := DpAll.at (i := i) t (by simpa using e)
    exact ⟨d, by simpa using h1, h2⟩
theorem DpAll.snoc : ∀ {vs : List V} {ds : List PyData} {v : V} {d : PyData}, DpAll K H vs ds → Dp K H v d → DpAll K H (vs ++ [v]) (ds ++ [d])
  | _, _, _, _, .nil, h => .cons h .nil
  | _, _, _, _, .cons h t, h' => .cons h (DpAll.snoc t h')
theorem sq_dI {a : Addr} {ns : List Int} (h : Dp K H (.ref a) (dI ns)) : SqT K H a (ns.map V.int) := by
  cases h with
  | tup hs ha => rw [DpAll.ints ha] at hs; exact hs
theorem dI_sq {a : Addr} {ns : List Int} (h : SqT K H a (ns.map V.int)) : Dp K H (.ref a) (dI ns) := .tup h (dp_ints ns)
theorem dI_ref {v : V} {ns : List Int} (h : Dp K H v (dI ns)) : ∃ a, v = .ref a ∧ SqT K H a (ns.map V.int) := by
  cases h with
  | tup hs ha => rw [DpAll.ints ha] at hs; exact ⟨_, rfl, hs⟩
theorem grp_ref {v : V} {g : Gp} (h : Dp K H v (dGrp g)) : ∃ a p, v = .ref a ∧ SqT K H a [.ref p, .int g.2] ∧ SqT K H p (g.1.map V.int) := by
  cases h with
  | tup hs ha =>
    cases ha with
    | cons h1 h2 =>
      cases h2 with
      | cons h3 h4 =>
        cases h4
        cases h3
        obtain ⟨p, rfl, hp⟩ := dI_ref h1
        exact ⟨_, p, rfl, hs, hp⟩
theorem inst_open {v : V} {cs : List Int} {gs : List Gp} (h : Dp K H v (dInst cs gs)) :
    ∃ a c g xs, v = .ref a ∧ SqT K H a [.ref c, .ref g] ∧ SqT K H c (cs.map V.int) ∧ SqT K H g xs ∧ DpAll K H xs (gs.map dGrp) := by
  cases h with
  | tup hs ha =>
    cases ha with
    | cons h1 h2 =>
      cases h2 with
      | cons h3 h4 =>
        cases h4
        obtain ⟨c, rfl, hc⟩ := dI_ref h1
        cases h3 with
        | tup hg hx => exact ⟨_, c, _, _, rfl, hs, hc, hg, hx⟩
theorem asg_open {v : V} {rs : List (List Int)} (h : Dp K H v (dAsg rs)) : ∃ a xs, v = .ref a ∧ SqT K H a xs ∧ DpAll K H xs (rs.map dI) := by
  cases h with
  | tup hg hx => exact ⟨_, _, rfl, hg, hx⟩
end

/-! what repr wants of data -/
structure Fine (k B : Nat) (d : PyData) : Prop where
  sh : d.showable = true
  nd : d.hasDict = false
  dp : d.depth ≤ k
  ln : d.shown.length ≤ B
theorem Fine.mono {k k' B B' : Nat} {d : PyData} (h : Fine k B d) (hk : k ≤ k') (hB : B ≤ B') : Fine k' B' d := ⟨h.sh, h.nd, Nat.le_trans h.dp hk, Nat.le_trans h.ln hB⟩
theorem fine_int {i : Int} (h : i.natAbs < 10 ^ 20) : Fine 0 25 (.int i) := by
  refine ⟨?_, by simp [PyData.hasDict], by simp [PyData.depth], ?_⟩
  · simp only [PyData.showable, decide_eq_true_eq]
    have : i.natAbs.log2 < 100 := by
      by_cases h0 : i.natAbs = 0
      · rw [h0]; decide
      · exact (Nat.log2_lt h0).mpr (Nat.lt_trans h (by decide))
    omega
  · have e := int_text_length_le10 (k := 20) (by decide) h
    show (Str.ofString (toString i)).length ≤ 25
    rw [PySem.ofString_length]
    omega
theorem fine_all {k B : Nat} : ∀ {xs : List PyData}, (∀ x ∈ xs, Fine k B x) → PyData.showableAll xs = true ∧ PyData.hasDictAll xs = false ∧ PyData.depthAll xs ≤ k ∧ ((PyData.shownAll xs).map (·.length)).sum ≤ xs.length * B ∧ (PyData.shownAll xs).length = xs.length
  | [], _ => by simp [PyData.showableAll, PyData.hasDictAll, PyData.depthAll, PyData.shownAll]
  | x :: xs, h => by
    obtain ⟨h1, h2, h3, h4, h5⟩ := fine_all (xs := xs) (fun y hy => h y (by simp [hy]))
    have hx := h x (by simp)
    refine ⟨by simp [PyData.showableAll, hx.sh, h1], by simp [PyData.hasDictAll, hx.nd, h2], ?_, ?_, ?_⟩
    · simp only [PyData.depthAll]; have := hx.dp; omega
    · simp only [PyData.shownAll, List.map_cons, List.sum_cons, List.length_cons]; have := hx.ln; rw [Nat.succ_mul]; omega
    · simp [PyData.shownAll, h5]
theorem fine_tup {k B n : Nat} {xs : List PyData} (h : ∀ x ∈ xs, Fine k B x) (hn : xs.length ≤ n) : Fine (k + 1) (n * (B + 2) + 3) (.tuple xs) := by
  obtain ⟨h1, h2, h3, h4, h5⟩ := fine_all h
  refine ⟨by simp only [PyData.showable]; exact h1, by simp only [PyData.hasDict]; exact h2, by simp only [PyData.depth]; omega, ?_⟩
  simp only [PyData.shown]
  have e := tupleText_len_le (PyData.shownAll xs)
  rw [h5] at e
  have m : xs.length * (B + 2) ≤ n * (B + 2) := Nat.mul_le_mul_right _ hn
  rw [Nat.mul_add] at m
  omega
theorem fine_lst {k B n : Nat} {xs : List PyData} (h : ∀ x ∈ xs, Fine k B x) (hn : xs.length ≤ n) : Fine (k + 1) (n * (B + 2) + 3) (.list xs) := by
  obtain ⟨h1, h2, h3, h4, h5⟩ := fine_all h
  refine ⟨by simp only [PyData.showable]; exact h1, by simp only [PyData.hasDict]; exact h2, by simp only [PyData.depth]; omega, ?_⟩
  simp only [PyData.shown]
  have e := listText_len_le (PyData.shownAll xs)
  rw [h5] at e
  have m : xs.length * (B + 2) ≤ n * (B + 2) := Nat.mul_le_mul_right _ hn
  rw [Nat.mul_add] at m
  omega
theorem fine_dI {ns : List Int} {n : Nat} (h : ∀ i ∈ ns, i.natAbs < 10 ^ 20) (hn : ns.length ≤ n) : Fine 1 (n * 27 + 3) (dI ns) := by
  refine fine_tup (B := 25) ?_ (by simpa using hn)
  intro d hd
  obtain ⟨i, hi, rfl⟩ := List.mem_map.mp hd
  exact fine_int (h i hi)

/-! the drawing state of the law: a list of the cells, the rests and the turn -/
structure DS (H : Hp) (st c r : Addr) (t : Nat) : Prop where
  hs : H st = some (.lst [.ref c, .ref r, .int t])
  ex : ∃ cells rests : List Int, H c = some (.lst (cells.map V.int)) ∧ H r = some (.lst (rests.map V.int)) ∧ cells.length = rests.length ∧
    0 < cells.length ∧ cells.length ≤ 100 ∧ ∀ x ∈ rests, 0 ≤ x
  n1 : c ≠ r
  n2 : st ≠ c
  n3 : st ≠ r
def Ext (st r : Addr) (H H' : Hp) : Prop := ∀ b o, H b = some o → b ≠ st → b ≠ r → H' b = some o
section
variable {H H1 H2 : Hp} {st c r p : Addr} {t : Nat} {o : HO}
theorem Ext.trans (a : Ext st r H H1) (b : Ext st r H1 H2) : Ext st r H H2 := fun x o h n1 n2 => b x o (a x o h n1 n2) n1 n2
theorem Ext.of (s : Same H H1) : Ext st r H H1 := fun b o h _ _ => s b o h
theorem Ext.tup (d : DS H st c r t) (e : Ext st r H H1) : TupK H H1 := by
  obtain ⟨cells, rests, hc, hr, _⟩ := d.ex
  intro b xs
  refine ⟨fun h => ?_, fun u h => ?_⟩
  · exact e _ _ h (ne_of h d.hs (by intro z; cases z)) (ne_of h hr (by intro z; cases z))
  · exact e _ _ h (ne_of h d.hs (by intro z; cases z)) (ne_of h hr (by intro z; cases z))
theorem DS.same (d : DS H st c r t) (s : Same H H1) : DS H1 st c r t := by
  obtain ⟨cells, rests, hc, hr, q⟩ := d.ex
  exact ⟨s _ _ d.hs, ⟨cells, rests, s _ _ hc, s _ _ hr, q⟩, d.n1, d.n2, d.n3⟩
theorem DS.new (d : DS H st c r t) (np : H p = none) : DS (upd H p o) st c r t := d.same (sameNew np)
theorem DS.put (d : DS H st c r t) (h1 : p ≠ st) (h2 : p ≠ c) (h3 : p ≠ r) : DS (upd H p o) st c r t := by
  obtain ⟨cells, rests, hc, hr, q⟩ := d.ex
  exact ⟨by rw [upd_ne h1.symm]; exact d.hs, ⟨cells, rests, by rw [upd_ne h2.symm]; exact hc, by rw [upd_ne h3.symm]; exact hr, q⟩, d.n1, d.n2, d.n3⟩
/-- an address that was free while the state stood is none of its own -/
theorem DS.off (d : DS H st c r t) (np : H p = none) : p ≠ st ∧ p ≠ c ∧ p ≠ r := by
  obtain ⟨cells, rests, hc, hr, q⟩ := d.ex
  exact ⟨(ne_of_none d.hs np).symm, (ne_of_none hc np).symm, (ne_of_none hr np).symm⟩
end
end Pv

namespace Pv
open PySem PySem.Spec PyProof.Rows L2
/-! enumerate of a tuple -/
theorem enumT_new (l : Addr) (items : Array Value) (n : Nat) (dct : Option Addr) (sl : Array (Option Value)) :
    Meets (Builtin.«enumerate.__new__» ⟨[.type "enumerate", .ref l], []⟩) (fun _ R s =>
      s.heap.get? l = some { cls := .type "tuple", dict := dct, data := .seq items n, slots := sl } ∧
      R (.ok (.ret (.ref (s.heap.push { cls := .type "tuple_iterator", data := .fields #[.ref l, .int 0 0] }).objs.size)))
        { s with heap := Heap.push (s.heap.push { cls := .type "tuple_iterator", data := .fields #[.ref l, .int 0 0] }) { cls := .type "enumerate", data := .fields #[.none, .bool false, .ref s.heap.objs.size, rawInt 0, .none, .none] } }) :=
  .of_wp fun prog w A R s h => by
    obtain ⟨hp, g, d, tk, os⟩ := s
    obtain ⟨hl, h⟩ := h
    have hsub := sub_enumerate
    have hL : Heap.IsTuple (Shared.heap ⟨hp, g, d, tk, os⟩) l items := ⟨_, hl, rfl, n, rfl⟩
    wp_walk using AutoSeq1.wpAny_loadPart' hl
    refine wpAny_stack_any fun st => wpAny_pure ?_
    split
    · rename_i c _ _ _ _ _
      cases (c == Value.type "enumerate") <;>
        (wp_walk using AutoSeq1.wpAny_loadPart' hl, wpAny_pyIter_tuple hL; exact ⟨_, rfl, h⟩)
    · wp_walk using AutoSeq1.wpAny_loadPart' hl, wpAny_pyIter_tuple hL
      exact ⟨_, rfl, h⟩
theorem call_enumT {prog : Program} {w : World} {A : Around} {E : Value → Shared → Prop} {s : Shared} {l : Addr} {items : Array Value} {Q : Value → Shared → Prop} (hL : s.heap.IsTuple l items)
    (h : ∀ h', IsEnum h' (s.heap.objs.size + 1) s.heap.objs.size 0 .none → h'.IsTupleIter s.heap.objs.size l 0 →
      (∀ b o, s.heap.get? b = some o → h'.get? b = some o) → Q (.ref (s.heap.objs.size + 1)) { s with heap := h' }) :
    wpAny (model prog w) A (call (.type "enumerate") [.ref l]) Q E s := by
  obtain ⟨⟨c, dct, dt, sl⟩, hl, hc, n, hd⟩ := hL
  simp only at hc hd
  subst hc hd
  refine callType_new F.called_enumerate (by decide) (F.typeCall_enumerate_1 _) (F.newCall_enumerate_1 _) (fun obj => F.args_object_init_2 obj _) F.entry_enumerate_new (enumT_new l items n dct sl) ⟨hl, ?_⟩
  have hz : (s.heap.push { cls := .type "tuple_iterator", data := .fields #[.ref l, .int 0 0] }).objs.size = s.heap.objs.size + 1 := Heap.size_push ..
  show _ ∧ _
  rw [hz]
  have ge : IsEnum (Heap.push (s.heap.push { cls := .type "tuple_iterator", data := .fields #[.ref l, .int 0 0] }) { cls := .type "enumerate", data := .fields #[.none, .bool false, .ref s.heap.objs.size, rawInt 0, .none, .none] }) (s.heap.objs.size + 1) s.heap.objs.size 0 .none := by
    rw [← hz]
    exact Heap.get?_push_size _ rfl
  exact ⟨⟨_, ge, rfl⟩, h _ ge ⟨_, Heap.get?_push_of_some _ (Heap.get?_push_size _ rfl), rfl, rfl⟩ fun b o x => Heap.get?_push_of_some _ (Heap.get?_push_of_some _ x)⟩
def IteT (K : PySem.W.Frag) (a : Addr) : It :=
  ⟨fun i H => ∃ (xs : List V) (x : V), SqT K H a xs ∧ xs[i]? = some x,
   fun i H v H' => ∃ T x, v = .ref T ∧ H T = none ∧ H' = upd H T (.tup [.int (i : Nat), x]) ∧ ∀ xs, SqT K H a xs → xs[i]? = some x,
   fun i H => ∃ xs : List V, SqT K H a xs ∧ xs.length = i⟩
theorem tupLt {h : Heap} {a : Addr} {its : Array Value} (p : IsTup h a its) : a < h.objs.size := by obtain ⟨_, e, _⟩ := p; exact Heap.lt_size e
theorem turn_enumT {P : Program} {w : World} {K : PySem.W.Frag} {elts : List Expr} {kk : Nat} {tpos : Pos} (a e it : Addr) :
    Turn P w K (.Tuple elts kk tpos) (IteT K a) [e, it] e (fun i h => (∃ old, IsEnum h e it ((i : Nat) : Int) old) ∧ h.IsTupleIter it a i ∧ e ≠ it) where
  mem := by simp
  obj := by
    rintro i h ⟨⟨old, he⟩, ⟨o, ho, hc, hd⟩, _⟩ b hb
    simp only [List.mem_cons, List.not_mem_nil, or_false] at hb
    rcases hb with rfl | rfl
    · exact ⟨_, he, fun v q => nomatch q⟩
    · exact ⟨o, ho, fun v q => by rw [hd] at q; cases q⟩
  keep := by
    rintro i h h' ⟨⟨old, he⟩, hi, hne⟩ k
    exact ⟨⟨old, k e (by simp) _ he⟩, hi.at fun o q => k it (by simp) o q, hne⟩
  item := by
    intro X hP hw hK hc i pins s σ H E I hf st hg
    subst hP hw hK
    obtain ⟨⟨old, he⟩, hit, hne⟩ := st
    obtain ⟨xs, x, hq, hx⟩ := hg
    obtain ⟨its, rv, p, hz⟩ := I.tuple hq
    obtain ⟨u, hu, ru⟩ := rv.get hx
    have hel : e < s.heap.objs.size := Heap.lt_size he
    have hil : it < s.heap.objs.size := by obtain ⟨_, q, _⟩ := hit; exact Heap.lt_size q
    have nea : e ≠ a := by
      rintro rfl
      obtain ⟨o, ho, hcl, _⟩ := p
      rw [he] at ho
      cases ho
      injection hcl with hcl
      exact absurd hcl (by decide)
    have nia : a ≠ it := by
      rintro rfl
      obtain ⟨o, ho, hcl, _⟩ := p
      obtain ⟨o2, ho2, hcl2, _⟩ := hit
      rw [ho] at ho2
      cases ho2
      rw [hcl] at hcl2
      injection hcl2 with hcl2
      exact absurd hcl2 (by decide)
    have hlt : i < its.toArray.size := by have := (List.getElem?_eq_some_iff.mp hu).1; simpa using this
    refine wpAny_pyNext_enum_itemD (Draws.tuple (A := X.A.in1) (I.ok.hd hc) it a nia its.toArray) he ⟨hit, p⟩ hlt hne (by simp [hne, nea]) ?_
    intro u' h' tk hu' ho st' hT hsz hk
    have hu2 : its.toArray[i]? = some u' := hu'
    have : u' = u := by
      have h3 : its.toArray[i]? = some u := by simpa using hu
      rw [h3] at hu2
      exact (Option.some.inj hu2).symm
    subst this
    refine ⟨_, rfl, wpAny_letOwnedTupleGo_enum (s := { s with heap := h', toks := tk + 1 }) ho fun h'' he' sb => ?_⟩
    have hT2 : h''.get? s.heap.objs.size = some { cls := .type "tuple", data := .seq #[.int i tk, u'] } := (sb.2 _ (Nat.ne_of_gt hel)).trans hT
    have new : ObjOk X.prog X.w (upd H s.heap.objs.size (.tup [.int (i : Nat), x])) h'' s.heap.objs.size (.tup [.int (i : Nat), x]) :=
      ⟨by show 2 ≤ sizeLine; decide, [.int i tk, u'], .cons ⟨_, rfl⟩ (.cons ru .nil), ⟨_, hT2, rfl, _, rfl⟩⟩
    have kk : ∀ b ob, b ∉ [e, it] → s.heap.get? b = some ob → h''.get? b = some ob := by
      intro b ob hb q
      have h1 : b ≠ e := fun z => hb (by simp [z])
      have h2 : b ≠ it := fun z => hb (by simp [z])
      exact (sb.2 b h1).trans (hk b ob h1 h2 q)
    have I1 : Inv X pins σ (upd H s.heap.objs.size (.tup [.int (i : Nat), x])) { s with heap := h'', toks := tk + 1 } :=
      I.turnedNew (ch := [e, it]) kk hf (Nat.le_refl _) new
    refine ⟨.ref s.heap.objs.size, _, I1, rfl, ⟨_, x, rfl, I.hok.fresh (Nat.le_refl _), rfl, fun ys hy => by rw [I.tuple_inj hy hq]; exact hx⟩, ⟨⟨u', ?_⟩, st'.1.at fun o q => (sb.2 it (Ne.symm hne)).trans q, hne⟩, fun b hb => ?_⟩
    · rw [show ((i + 1 : Nat) : Int) = (i : Int) + 1 by omega]; exact he'
    · have hb' : b < s.heap.objs.size := by
        simp only [List.mem_cons, List.not_mem_nil, or_false] at hb
        rcases hb with rfl | rfl <;> assumption
      rw [upd_ne (Nat.ne_of_lt hb')]
      exact (hf b hb).1
  done := by
    intro X hP hw hK hc i pins s σ H E I hf st hg
    subst hP hw hK
    obtain ⟨⟨old, he⟩, hit, hne⟩ := st
    obtain ⟨xs, hq, hx⟩ := hg
    obtain ⟨its, rv, p, hz⟩ := I.tuple hq
    obtain ⟨f0, f1, f2, f3, f4, f5⟩ := hf it (by simp)
    have hl := rv.length
    have nia : a ≠ it := by
      rintro rfl
      obtain ⟨o, ho, hcl, _⟩ := p
      obtain ⟨o2, ho2, hcl2, _⟩ := hit
      rw [ho] at ho2
      cases ho2
      rw [hcl] at hcl2
      injection hcl2 with hcl2
      exact absurd hcl2 (by decide)
    have hi : i = its.toArray.size := by rw [List.size_toArray]; omega
    refine wpAny_pyNext_enum_endD (Draws.tuple (A := X.A.in1) (I.ok.hd hc) it a nia its.toArray) he (by rw [← hi]; exact ⟨hit, p⟩) fun h' eb => ⟨rfl, I.turned (t' := s.toks) (fun b o hb q => eb b o hb q) f0 f1 f3 f4 f5⟩
  self := by
    rintro A i s Q E ⟨⟨_, he⟩, _⟩ h
    exact wpAny_pyIter_enum he h
def iEnumT (K : PySem.W.Frag) (ta : TA) : TI := fun σ H R => ta σ H fun vs H1 => ∃ a xs, vs = [.ref a] ∧ SqT K H1 a xs ∧ R (IteT K a) H1
theorem pi_enumT {X : Cx} {e : Expr} {ta : TA} {p pos tpos : Pos} {elts : List Expr} {kk : Nat} (hg : Gl X "enumerate") (hm : X.mg "enumerate" = none) (ha : PA X [e] ta)
    (hs : starEach [e] X.env = [(false, eval e X.env)] := by rfl) : PI X (.Tuple elts kk tpos) (.Call (.Name "enumerate" p) [e] [] pos) (iEnumT X.K ta) := by
  constructor
  intro pins s σ H R I h
  refine Call_ (ld_blt I hg hm boot_enumerate (PyProof.Rows.callWith_type1 (thn (ha.run pos pins s σ H _ I h) ?_) hs rfl))
  rintro us s1 ⟨vs, H1, I1, r1, a, xs, rfl, hq, q⟩
  obtain ⟨u, rfl, rfl⟩ := vals1 r1
  obtain ⟨its, rv, p', hz⟩ := I1.tuple hq
  refine call_enumT (show s1.heap.IsTuple a its.toArray from p') fun h' he hit hk => wpAny_pyIter_enum he ?_
  have I2 : Inv X pins σ H1 { s1 with heap := h' } := I1.kept (t' := s1.toks) hk
  refine ⟨s1.heap.objs.size + 1, [s1.heap.objs.size + 1, s1.heap.objs.size], _, _, H1, rfl, I2, turn_enumT a (s1.heap.objs.size + 1) s1.heap.objs.size, ⟨⟨.none, he⟩, hit, Nat.succ_ne_self _⟩, ?_, q⟩
  intro b hb
  have hle : s1.heap.objs.size ≤ b := by
    simp only [List.mem_cons, List.not_mem_nil, or_false] at hb
    rcases hb with rfl | rfl <;> omega
  exact I1.fpOk hle (I1.hok.fresh hle)
theorem walk_enumT {K : PySem.W.Frag} {a : Addr} {xs : List V} : Walk (IteT K a) xs.length (fun H => SqT K H a xs) (YPair (fun i => some (.int (i : Nat))) (fun i => xs[i]?)) := by
  constructor
  · intro i H hi q
    exact ⟨xs, xs[i], q, by simp [hi]⟩
  · intro H q
    exact ⟨xs, q, rfl⟩
  · rintro i H v H' _ q ⟨T, x, h1, h2, h3, h4⟩
    exact ⟨T, _, x, h1, h2, h3, rfl, h4 xs q⟩
/-! zip of a list and a tuple -/
abbrev zm1 (h : Heap) (l1 : Addr) : Heap := h.push { cls := .type "list_iterator", data := .fields #[.ref l1, .int 0 0] }
abbrev zm2 (h : Heap) (l1 l2 : Addr) : Heap := (zm1 h l1).push { cls := .type "tuple_iterator", data := .fields #[.ref l2, .int 0 0] }
abbrev zm3 (h : Heap) (l1 l2 : Addr) : Heap := (zm2 h l1 l2).push { cls := .type "tuple", data := .seq #[.ref h.objs.size, .ref (zm1 h l1).objs.size] }
abbrev zm4 (h : Heap) (l1 l2 : Addr) : Heap := (zm3 h l1 l2).push { cls := .type "tuple", data := .seq #[.none, .none] }
abbrev zm5 (h : Heap) (l1 l2 : Addr) : Heap := (zm4 h l1 l2).push { cls := .type "zip", data := .fields #[.none, .bool false, .bool false, .ref (zm2 h l1 l2).objs.size, .ref (zm3 h l1 l2).objs.size] }
theorem zipM_new (l1 l2 : Addr) (xs ys : Array Value) :
    Meets (Builtin.«zip.__new__» ⟨[.type "zip", .ref l1, .ref l2], []⟩) (fun _ R s => s.heap.IsList l1 xs ∧ s.heap.IsTuple l2 ys ∧
      R (.ok (.ret (.ref (zm4 s.heap l1 l2).objs.size))) { s with heap := zm5 s.heap l1 l2 }) :=
  .of_wp fun prog w A R s h => by
    obtain ⟨hp, g, d, tk, os⟩ := s
    obtain ⟨hl1, hl2, h⟩ := h
    have hsub := sub_zip
    have hL1 : Heap.IsList (Shared.heap ⟨hp, g, d, tk, os⟩) l1 xs := hl1
    have hL2 : Heap.IsTuple (Shared.heap ⟨zm1 hp l1, g, d, tk, os⟩) l2 ys := Heap.IsTuple.push hl2 _
    wp_walk using wpAny_pyIter_list hL1, wpAny_pyIter_tuple hL2
    exact ⟨_, rfl, h⟩
theorem call_zipM {prog : Program} {w : World} {A : Around} {E : Value → Shared → Prop} {s : Shared} {l1 l2 : Addr} {xs ys : Array Value} {Q : Value → Shared → Prop} (hl1 : s.heap.IsList l1 xs) (hl2 : s.heap.IsTuple l2 ys)
    (h : ∀ h', IsZip h' (s.heap.objs.size + 4) (s.heap.objs.size + 2) (s.heap.objs.size + 3) .none → IsPair h' (s.heap.objs.size + 2) (.ref s.heap.objs.size) (.ref (s.heap.objs.size + 1)) →
      IsPair h' (s.heap.objs.size + 3) .none .none → h'.IsListIter s.heap.objs.size l1 0 → h'.IsTupleIter (s.heap.objs.size + 1) l2 0 →
      (∀ c o, s.heap.get? c = some o → h'.get? c = some o) → Q (.ref (s.heap.objs.size + 4)) { s with heap := h' }) :
    wpAny (model prog w) A (call (.type "zip") [.ref l1, .ref l2]) Q E s := by
  refine callType_new F.called_zip (by decide) (F.typeCall_zip_2 _ _) (F.newCall_zip_2 _ _) (fun obj => F.args_object_init_3 obj _ _) F.entry_zip_new (zipM_new l1 l2 xs ys) ⟨hl1, hl2, ?_⟩
  have z1 : (zm1 s.heap l1).objs.size = s.heap.objs.size + 1 := Heap.size_push ..
  have z2 : (zm2 s.heap l1 l2).objs.size = s.heap.objs.size + 2 := by rw [Heap.size_push, z1]
  have z3 : (zm3 s.heap l1 l2).objs.size = s.heap.objs.size + 3 := by rw [Heap.size_push, z2]
  have z4 : (zm4 s.heap l1 l2).objs.size = s.heap.objs.size + 4 := by rw [Heap.size_push, z3]
  have g5 : (zm5 s.heap l1 l2).get? (zm4 s.heap l1 l2).objs.size = some _ := Heap.get?_push_size _ rfl
  have g4 : (zm5 s.heap l1 l2).get? (zm3 s.heap l1 l2).objs.size = some _ := Heap.get?_push_of_some _ (Heap.get?_push_size _ rfl)
  have g3 : (zm5 s.heap l1 l2).get? (zm2 s.heap l1 l2).objs.size = some _ := Heap.get?_push_of_some _ (Heap.get?_push_of_some _ (Heap.get?_push_size _ rfl))
  have g2 : (zm5 s.heap l1 l2).get? (zm1 s.heap l1).objs.size = some _ := Heap.get?_push_of_some _ (Heap.get?_push_of_some _ (Heap.get?_push_of_some _ (Heap.get?_push_size _ rfl)))
  have g1 : (zm5 s.heap l1 l2).get? s.heap.objs.size = some _ := Heap.get?_push_of_some _ (Heap.get?_push_of_some _ (Heap.get?_push_of_some _ (Heap.get?_push_of_some _ (Heap.get?_push_size _ rfl))))
  show _ ∧ _
  rw [z2, z3, z4] at g5
  rw [z1, z2] at g3
  rw [z3] at g4
  rw [z1] at g2
  rw [z4]
  refine ⟨⟨_, g5, rfl⟩, h _ g5 g3 g4 ⟨_, g1, rfl, rfl⟩ ⟨_, g2, rfl, rfl⟩ ?_⟩
  intro c o x
  exact Heap.get?_push_of_some _ (Heap.get?_push_of_some _ (Heap.get?_push_of_some _ (Heap.get?_push_of_some _ (Heap.get?_push_of_some _ x))))
def ItzM (K : PySem.W.Frag) (a b : Addr) : It :=
  ⟨fun i H => ∃ (xs ys : List V) (x y : V), SqL K H a xs ∧ SqT K H b ys ∧ xs[i]? = some x ∧ ys[i]? = some y,
   fun i H v H' => ∃ T x y, v = .ref T ∧ H T = none ∧ H' = upd H T (.tup [x, y]) ∧ (∀ xs, SqL K H a xs → xs[i]? = some x) ∧ ∀ ys, SqT K H b ys → ys[i]? = some y,
   fun i H => ∃ xs ys : List V, SqL K H a xs ∧ SqT K H b ys ∧ min xs.length ys.length = i⟩
theorem sepM {z TI TO i1 i2 a b : Addr} (D : ZipApart z TI TO i1 i2 a b) : ZipSep2 z TI TO i1 i2 [i1, a] [i2, b] := by
  refine ⟨D.TIz, D.TOz, D.TITO, D.TIi1, by simp, ?_, ?_, D.TIi2, by simp, ?_, ?_, ?_, ?_⟩ <;>
    simp only [List.mem_cons, List.not_mem_nil, or_false, not_or]
  · exact ⟨D.i1z.symm, D.l1z.symm⟩
  · exact ⟨D.TOi1, D.l1TO.symm⟩
  · exact ⟨D.i2z.symm, D.l2z.symm⟩
  · exact ⟨D.TOi2, D.l2TO.symm⟩
  · exact ⟨D.i12, D.l2i1.symm⟩
  · exact ⟨D.i12.symm, D.l1i2.symm⟩
theorem turn_zipM {P : Program} {w : World} {K : PySem.W.Frag} {elts : List Expr} {kk : Nat} {tpos : Pos} {a b z TI TO i1 i2 : Addr} (D : ZipApart z TI TO i1 i2 a b) :
    Turn P w K (.Tuple elts kk tpos) (ItzM K a b) [z, TI, TO, i1, i2] z
      (fun i h => IsZip h z TI TO .none ∧ IsPair h TI (.ref i1) (.ref i2) ∧ (∃ x y, IsPair h TO x y) ∧ h.IsListIter i1 a i ∧ h.IsTupleIter i2 b i) where
  mem := by simp
  obj := by
    rintro i h ⟨hz, hTI, ⟨x, y, hTO⟩, ⟨o1, e1, _, d1⟩, ⟨o2, e2, _, d2⟩⟩ c hc
    simp only [List.mem_cons, List.not_mem_nil, or_false] at hc
    rcases hc with rfl | rfl | rfl | rfl | rfl
    · exact ⟨_, hz, fun v q => nomatch q⟩
    · exact ⟨_, hTI, fun v q => nomatch q⟩
    · exact ⟨_, hTO, fun v q => nomatch q⟩
    · exact ⟨o1, e1, fun v q => by rw [d1] at q; cases q⟩
    · exact ⟨o2, e2, fun v q => by rw [d2] at q; cases q⟩
  keep := by
    rintro i h h' ⟨hz, hTI, ⟨x, y, hTO⟩, h1, h2⟩ k
    exact ⟨k z (by simp) _ hz, k TI (by simp) _ hTI, ⟨x, y, k TO (by simp) _ hTO⟩, h1.at fun o q => k i1 (by simp) o q, h2.at fun o q => k i2 (by simp) o q⟩
  item := by
    intro X hP hw hK hc i pins s σ H E I hf st hg
    subst hP hw hK
    obtain ⟨hz, hTI, ⟨x0, y0, hTO⟩, h1, h2⟩ := st
    obtain ⟨xs, ys, x, y, hqx, hqy, hx, hy⟩ := hg
    obtain ⟨its, rv, p, _⟩ := I.list hqx
    obtain ⟨its2, rv2, p2, _⟩ := I.tuple hqy
    obtain ⟨u, hu, ru⟩ := rv.get hx
    obtain ⟨u2, hu2, ru2⟩ := rv2.get hy
    have hzl : z < s.heap.objs.size := Heap.lt_size hz
    have hl1 : i < its.toArray.size := by have := (List.getElem?_eq_some_iff.mp hu).1; simpa using this
    have hl2 : i < its2.toArray.size := by have := (List.getElem?_eq_some_iff.mp hu2).1; simpa using this
    refine wpAny_pyNext_zipD2_item (sepM D) (Draws.list (A := X.A.in1) (I.ok.hd hc) i1 a D.l1i1 its.toArray) (Draws.tuple (A := X.A.in1) (I.ok.hd hc) i2 b D.l2i2 its2.toArray) hz hTI hTO ⟨h1, p.isList⟩ ⟨h2, p2⟩ hl1 hl2 ?_
    intro v1 v2 h' tk hv1 hv2 z' TO' st1 st2 hT hsz hk
    have e1 : v1 = u := by
      have h3 : its.toArray[i]? = some u := by simpa using hu
      rw [show its.toArray[i]? = some v1 from hv1] at h3
      exact Option.some.inj h3
    have e2 : v2 = u2 := by
      have h3 : its2.toArray[i]? = some u2 := by simpa using hu2
      rw [show its2.toArray[i]? = some v2 from hv2] at h3
      exact Option.some.inj h3
    subst e1 e2
    refine ⟨_, rfl, wpAny_letOwnedTupleGo_zip (s := { s with heap := h', toks := tk }) z' fun h'' z'' sb => ?_⟩
    have hT2 : h''.get? s.heap.objs.size = some { cls := .type "tuple", data := .seq #[v1, v2] } := (sb.2 _ (Nat.ne_of_gt hzl)).trans hT
    have new : ObjOk X.prog X.w (upd H s.heap.objs.size (.tup [x, y])) h'' s.heap.objs.size (.tup [x, y]) :=
      ⟨by show 2 ≤ sizeLine; decide, [v1, v2], .cons ru (.cons ru2 .nil), ⟨_, hT2, rfl, _, rfl⟩⟩
    have kk : ∀ c o, c ∉ [z, TI, TO, i1, i2] → s.heap.get? c = some o → h''.get? c = some o := by
      intro c o hb q
      simp only [List.mem_cons, List.not_mem_nil, or_false, not_or] at hb
      exact (sb.2 c hb.1).trans (hk c o hb.1 hb.2.2.1 hb.2.2.2.1 hb.2.2.2.2 q)
    have I1 : Inv X pins σ (upd H s.heap.objs.size (.tup [x, y])) { s with heap := h'', toks := tk } :=
      I.turnedNew (t' := tk) (ch := [z, TI, TO, i1, i2]) kk hf (Nat.le_refl _) new
    refine ⟨.ref s.heap.objs.size, _, I1, rfl, ⟨_, x, y, rfl, I.hok.fresh (Nat.le_refl _), rfl, fun l hl => by rw [I.list_inj hl hqx]; exact hx, fun l hl => by rw [I.tuple_inj hl hqy]; exact hy⟩, ⟨z'', ?_, ⟨v1, v2, ?_⟩, ?_, ?_⟩, ?_⟩
    · exact (sb.2 _ D.TIz).trans (hk _ _ D.TIz D.TITO D.TIi1 D.TIi2 hTI)
    · exact (sb.2 _ D.TOz).trans TO'
    · exact st1.1.at fun o q => (sb.2 _ D.i1z).trans q
    · exact st2.1.at fun o q => (sb.2 _ D.i2z).trans q
    · intro c hcm
      have hlt : c < s.heap.objs.size := by
        simp only [List.mem_cons, List.not_mem_nil, or_false] at hcm
        rcases hcm with rfl | rfl | rfl | rfl | rfl
        · exact hzl
        · exact Heap.lt_size hTI
        · exact Heap.lt_size hTO
        · obtain ⟨_, e1, _⟩ := h1; exact Heap.lt_size e1
        · obtain ⟨_, e2, _⟩ := h2; exact Heap.lt_size e2
      rw [upd_ne (Nat.ne_of_lt hlt)]
      exact (hf c hcm).1
  done := by
    intro X hP hw hK hc i pins s σ H E I hf st hg
    subst hP hw hK
    obtain ⟨hz, hTI, ⟨x0, y0, hTO⟩, h1, h2⟩ := st
    obtain ⟨xs, ys, hqx, hqy, hend⟩ := hg
    obtain ⟨its, rv, p, _⟩ := I.list hqx
    obtain ⟨its2, rv2, p2, _⟩ := I.tuple hqy
    have l1 := rv.length
    have l2 := rv2.length
    refine wpAny_pyNext_zipD2_end (i := i) (sepM D) (Draws.list (A := X.A.in1) (I.ok.hd hc) i1 a D.l1i1 its.toArray) (Draws.tuple (A := X.A.in1) (I.ok.hd hc) i2 b D.l2i2 its2.toArray) hz hTI hTO ⟨h1, p.isList⟩ ⟨h2, p2⟩ (by simp; omega) (by simp; omega) (by simp; omega) ?_
    intro h' tk hk
    refine ⟨rfl, I.turnedL (t' := tk) (ch := [z, TI, TO, i1, i2]) ?_ hf⟩
    intro c o hb q
    simp only [List.mem_cons, List.not_mem_nil, or_false, not_or] at hb
    exact hk c o hb.1 hb.2.2.1 hb.2.2.2.1 hb.2.2.2.2 q
  self := fun A i s Q E st h => wpAny_pyIter_zip st.1 h
def iZipM (K : PySem.W.Frag) (ta : TA) : TI := fun σ H R => ta σ H fun vs H1 => ∃ a b xs ys, vs = [.ref a, .ref b] ∧ SqL K H1 a xs ∧ SqT K H1 b ys ∧ R (ItzM K a b) H1
theorem pi_zipM {X : Cx} {e e2 : Expr} {ta : TA} {p pos tpos : Pos} {elts : List Expr} {kk : Nat} (hg : Gl X "zip") (hm : X.mg "zip" = none) (ha : PA X [e, e2] ta)
    (hs : starEach [e, e2] X.env = (false, eval e X.env) :: starEach [e2] X.env := by rfl) (hpl : (backTo pos (starEach [e2] X.env)).any (·.1) = false := by rfl) :
    PI X (.Tuple elts kk tpos) (.Call (.Name "zip" p) [e, e2] [] pos) (iZipM X.K ta) := by
  constructor
  intro pins s σ H R I h
  refine Call_ (ld_blt I hg hm PyProof.Rows.boot_zip (PyProof.Rows.callWith_type1 (thn (ha.run pos pins s σ H _ I h) ?_) hs hpl))
  rintro us s1 ⟨vs, H1, I1, r1, a, b, xs, ys, rfl, hqx, hqy, q⟩
  obtain ⟨u, v, rfl, rfl, rfl⟩ := vals2 r1
  obtain ⟨its, rv, p1, _⟩ := I1.list hqx
  obtain ⟨its2, rv2, p2, _⟩ := I1.tuple hqy
  refine call_zipM p1.isList (show s1.heap.IsTuple b its2.toArray from p2) fun h' hz hTI hTO h1 h2 hk => wpAny_pyIter_zip hz ?_
  have I2 : Inv X pins σ H1 { s1 with heap := h' } := I1.kept (t' := s1.toks) hk
  refine ⟨s1.heap.objs.size + 4, [s1.heap.objs.size + 4, s1.heap.objs.size + 2, s1.heap.objs.size + 3, s1.heap.objs.size, s1.heap.objs.size + 1], _, _, H1, rfl, I2,
    turn_zipM (PySem.W.ktu_apart s1.heap.objs.size a b p1.lt (tupLt p2)), ⟨hz, hTI, ⟨_, _, hTO⟩, h1, h2⟩, ?_, q⟩
  intro c hcm
  have hle : s1.heap.objs.size ≤ c := by
    simp only [List.mem_cons, List.not_mem_nil, or_false] at hcm
    rcases hcm with rfl | rfl | rfl | rfl | rfl <;> omega
  exact I1.fpOk hle (I1.hok.fresh hle)
theorem walk_zipM {K : PySem.W.Frag} {a b : Addr} {xs ys : List V} {n : Nat} (hn : n = min xs.length ys.length) :
    Walk (ItzM K a b) n (fun H => SqL K H a xs ∧ SqT K H b ys) (YPair (fun i => xs[i]?) (fun i => ys[i]?)) := by
  subst hn
  constructor
  · rintro i H hi ⟨q1, q2⟩
    have h1 : i < xs.length := by omega
    have h2 : i < ys.length := by omega
    exact ⟨xs, ys, xs[i], ys[i], q1, q2, by simp [h1], by simp [h2]⟩
  · rintro H ⟨q1, q2⟩
    exact ⟨xs, ys, q1, q2, rfl⟩
  · rintro i H v H' _ ⟨q1, q2⟩ ⟨T, x, z, h1, h2, h3, h4, h5⟩
    exact ⟨T, x, z, h1, h2, h3, h4 xs q1, h5 ys q2⟩
end Pv

namespace Pv
open PySem PySem.Spec PyProof.Rows L2
theorem samePut {H H1 : Hp} {D : Addr} {o : HO} (s : Same H H1) (nD : H D = none) : Same H (upd H1 D o) := fun b z e => by rw [upd_ne (ne_of_none e nD)]; exact s b z e
theorem ty_sq {K : PySem.W.Frag} {H : Hp} {a : Addr} {xs : List V} (h : SqT K H a xs) : TyX K H (.ref a) (.type "tuple") := by
  rcases h with (h | ⟨o, h⟩) | ⟨o, its, n, h, hc, _⟩
  · exact .base (.tup h)
  · exact .fTuple h
  · exact .kTuple h hc
theorem small {n : Nat} (h : n ≤ 1000000) : n < sizeLine := Nat.lt_of_le_of_lt h (by decide)
def addAt (ls : List Int) (p x : Int) : List Int := ls.set p.toNat (ls.getD p.toNat 0 + x)
theorem addAt_len (ls : List Int) (p x : Int) : (addAt ls p x).length = ls.length := by simp [addAt]
theorem freeOf {H : Hp} {p b : Addr} {o : HO} (h : upd H p o b = none) : H b = none := by
  by_cases e : b = p
  · subst e; rw [upd_same] at h; cases h
  · rw [upd_ne e] at h; exact h
theorem ixN_nat {n j : Nat} (h : j < n) : ixN n (j : Int) = some j := by
  unfold ixN
  rw [if_pos (by omega), if_pos (by omega)]
  simp
theorem zip_take {α β : Type} : ∀ (n : Nat) (a : List α) (b : List β), (a.take n).zip (b.take n) = (a.zip b).take n
  | 0, _, _ => by simp
  | _ + 1, [], _ => by simp
  | _ + 1, _ :: _, [] => by simp
  | n + 1, x :: a, y :: b => by simp [zip_take n a b]
def zeros (n : Nat) : List Int := List.replicate n 0
theorem zeros_V (n : Nat) : (List.replicate n [V.int 0]).flatten = (zeros n).map V.int := by
  unfold zeros
  induction n with
  | zero => rfl
  | succ n ih => rw [List.replicate_succ, List.flatten_cons, ih]; rfl
theorem zip_snoc {α β : Type} {a : List α} {b : List β} {i : Nat} {x : α} {y : β} (hx : a[i]? = some x) (hy : b[i]? = some y) : (a.take (i + 1)).zip (b.take (i + 1)) = (a.take i).zip (b.take i) ++ [(x, y)] := by
  rw [zip_take, zip_take, List.take_add_one]
  have : (a.zip b)[i]? = some (x, y) := by
    rw [List.getElem?_zip_eq_some]; exact ⟨hx, hy⟩
  rw [this]; rfl
theorem take_snoc {α : Type} {l : List α} {i : Nat} {x : α} (h : l[i]? = some x) : l.take (i + 1) = l.take i ++ [x] := by rw [List.take_add_one, h]; rfl
theorem cut_to (xs : List V) (n : Nat) : cutV xs none (some (n : Int)) = xs.take n := by
  unfold cutV
  rw [HT.sIx_none, HT.sIx_nat, List.drop_zero, Nat.sub_zero]
  by_cases h : n ≤ xs.length
  · rw [Nat.min_eq_left h]
  · rw [Nat.min_eq_right (by omega), List.take_length, List.take_of_length_le (by omega)]
def absI (i : Int) : Int := if i < 0 then -i else i
theorem absI_nn (i : Int) : 0 ≤ absI i := by unfold absI; split <;> omega
def restI (c : Int) : Int := c * (if decide ((10 : Int) ^ (18 : Int).toNat ≤ c) = true then 1 else 0)
theorem restI_nn {c : Int} (h : 0 ≤ c) : 0 ≤ restI c := by unfold restI; split <;> omega
structure InsOk (cs : List Int) (gs : List Gp) : Prop where
  c1 : 1 ≤ cs.length
  c6 : cs.length ≤ 6
  cb : ∀ c ∈ cs, 1 ≤ c ∧ c ≤ 10 ^ 12
  g1 : 1 ≤ gs.length
  g10 : gs.length ≤ 10
  gp : ∀ g ∈ gs, g.1.length ≤ 6 ∧ (∀ p ∈ g.1, 0 ≤ p ∧ p < (cs.length : Int)) ∧ 1 ≤ g.2 ∧ g.2 ≤ 10 ^ 12
theorem ExtPut {st r p : Addr} {H H1 : Hp} {o : HO} (x : Ext st r H H1) (np : H p = none) : Ext st r H (upd H1 p o) := fun b z e n1 n2 => by rw [upd_ne (ne_of_none e np)]; exact x b z e n1 n2
theorem Ext.nil {st c r p : Addr} {t : Nat} {H H1 : Hp} (x : Ext st r H H1) (d : DS H1 st c r t) (np : H1 p = none) : H p = none := by
  have o := d.off np
  cases e : H p with
  | none => rfl
  | some z => rw [x _ _ e o.1 o.2.2] at np; cases np
def upTo (n : Nat) : List Int := (List.range n).map fun (i : Nat) => (i : Int)
theorem rgV_upTo (n : Nat) : rgV 0 (n : Int) = (upTo n).map V.int := by
  unfold rgV upTo
  rw [List.map_map]
  simp
theorem upTo_len (n : Nat) : (upTo n).length = n := by simp [upTo]
theorem upTo_mem {n : Nat} {x : Int} (h : x ∈ upTo n) : 0 ≤ x ∧ x < n := by
  unfold upTo at h
  obtain ⟨i, hi, rfl⟩ := List.mem_map.mp h
  have := List.mem_range.mp hi
  omega
theorem erase_map {α β : Type} (f : α → β) : ∀ (l : List α) (k : Nat), (l.map f).eraseIdx k = (l.eraseIdx k).map f
  | [], _ => rfl
  | _ :: _, 0 => rfl
  | x :: l, k + 1 => by simp [erase_map f l k]
theorem fine_grp {cs : List Int} {gs : List Gp} (ok : InsOk cs gs) {g : Gp} (hg : g ∈ gs) : Fine 2 500 (dGrp g) := by
  obtain ⟨h1, h2, h3, h4⟩ := ok.gp g hg
  refine (fine_tup (k := 1) (B := 200) (n := 2) (xs := [dI g.1, .int g.2]) ?_ (by simp)).mono (by omega) (by omega)
  intro x hx
  simp at hx
  rcases hx with rfl | rfl
  · exact (fine_dI (n := 6) (fun p hp => by have := h2 p hp; have := ok.c6; omega) h1).mono (by omega) (by omega)
  · exact (fine_int (by omega)).mono (by omega) (by omega)
theorem fine_inst {cs : List Int} {gs : List Gp} (ok : InsOk cs gs) : Fine 4 20000 (dInst cs gs) := by
  refine (fine_tup (k := 3) (B := 8000) (n := 2) (xs := [dI cs, .tuple (gs.map dGrp)]) ?_ (by simp)).mono (by omega) (by omega)
  intro x hx
  simp at hx
  rcases hx with rfl | rfl
  · exact (fine_dI (n := 6) (fun p hp => by have := ok.cb p hp; omega) ok.c6).mono (by omega) (by omega)
  · refine (fine_tup (k := 2) (B := 500) (n := 10) ?_ (by rw [List.length_map]; exact ok.g10)).mono (by omega) (by omega)
    intro d hd
    obtain ⟨g, hg, rfl⟩ := List.mem_map.mp hd
    exact fine_grp ok hg
theorem hu70 {k : Nat} {A : Around} (hr : Room k A) : A.units + 70 < cLine := by have := hr.un; omega
theorem ty_sqL {K : PySem.W.Frag} {H : Hp} {a : Addr} {xs : List V} (h : SqL K H a xs) : TyX K H (.ref a) (.type "list") := by
  rcases h with (h | ⟨o, h⟩) | ⟨o, its, n, h, hc, _⟩
  · exact .base (.lst h)
  · exact .base (.frz h)
  · exact .kList h hc
theorem FnOk.none {P : Program} {w : World} {K : PySem.W.Frag} {mg : Str → Option Value} {base : Heap} {k : Nat} {f : Addr} {fd : FuncData} {ps : List Str} : FnOk P w K mg base CX0 k f fd ps (fun _ _ _ _ => False) :=
  ⟨fun _ _ _ _ h => h.elim, fun _ _ _ _ _ _ _ _ _ _ _ _ _ h => h.elim⟩
end Pv

namespace Pv
open PySem PySem.Spec PyProof.Rows L2

/-! data of any kind: lists stand off the drawing state, dicts have leaves alone -/
def kD : Key → PyData
  | .inl i => .int i
  | .inr x => .str x
mutual
inductive Dq (K : PySem.W.Frag) (st r : Addr) (H : Hp) : V → PyData → Prop
  | non : Dq K st r H .non .none
  | bl (b : Bool) : Dq K st r H (.bl b) (.bool b)
  | int (i : Int) : Dq K st r H (.int i) (.int i)
  | str (x : Str) : Dq K st r H (.str x) (.str x)
  | lst {a : Addr} {xs : List V} {ds : List PyData} : H a = some (.lst xs) → a ≠ st → a ≠ r → a ≠ sysModules → DqAll K st r H xs ds → Dq K st r H (.ref a) (.list ds)
  | tup {a : Addr} {xs : List V} {ds : List PyData} : SqT K H a xs → DqAll K st r H xs ds → Dq K st r H (.ref a) (.tuple ds)
  | dct {a : Addr} {kvs : List (Key × Int)} : H a = some (.dK (kvs.map fun p => (p.1, V.int p.2))) → Dq K st r H (.ref a) (.dict (kvs.map fun p => (kD p.1, .int p.2)))
inductive DqAll (K : PySem.W.Frag) (st r : Addr) (H : Hp) : List V → List PyData → Prop
  | nil : DqAll K st r H [] []
  | cons {v : V} {vs : List V} {d : PyData} {ds : List PyData} : Dq K st r H v d → DqAll K st r H vs ds → DqAll K st r H (v :: vs) (d :: ds)
end
theorem keys_reads {P : Program} {w : World} {h : Heap} : ∀ {kvs : List (Key × Int)} {vs : List (Key × Value)} {es : List DictEntry}, KV (kvs.map fun p => (p.1, V.int p.2)) vs → Pairs (mixKind P w) es vs →
    ReadsAll h (es.map (·.key)) ((kvs.map fun p => (kD p.1, PyData.int p.2)).map (·.1)) [] ∧ ReadsAll h (es.map (·.val)) ((kvs.map fun p => (kD p.1, PyData.int p.2)).map (·.2)) []
  | [], _, _, rk, rp => by
    cases rk
    cases rp
    exact ⟨.nil, .nil⟩
  | p :: kvs, _, _, rk, rp => by
    obtain ⟨pk, pi⟩ := p
    rw [List.map_cons] at rk
    cases rk with
    | @cons _ q _ qs hq tq =>
      obtain ⟨qk, qv⟩ := q
      obtain ⟨h1, h2⟩ := hq
      simp only at h1 h2
      subst h1
      cases rp with
      | @cons e _ es _ he hv tp =>
        obtain ⟨r1, r2⟩ := keys_reads (h := h) tq tp
        simp only at he hv
        obtain ⟨t, ht⟩ := h2
        subst ht
        refine ⟨?_, ?_⟩
        · have k1 : Reads h e.key (kD pk) [] := by
            rcases keyIs_shape (show keyIs pk e.key = true from he) with ⟨i, t, e1, e2⟩ | ⟨x, t, e1, e2⟩
            · rw [e1, e2]; exact .int i t
            · rw [e1, e2]; exact .str x t
          exact ReadsAll.cons k1 r1
        · have k2 : Reads h e.val (.int pi) [] := by rw [hv]; exact .int pi t
          exact ReadsAll.cons k2 r2
section
variable {X : Cx} {pins : List (Addr × Obj)} {σ : L2.St} {H : Hp} {s : Shared} {st r : Addr}
mutual
theorem Dq.reads (I : Inv X pins σ H s) : ∀ (d : PyData) (v : V) (u : Value), Dq X.K st r H v d → RelV v u → ∃ as, Reads s.heap u d as ∧ sysModules ∉ as
  | .none, _, _, h, q => by
    cases h; cases q; exact ⟨[], .none, by simp⟩
  | .bool b, _, _, h, q => by
    cases h; cases q; exact ⟨[], .bool b, by simp⟩
  | .int i, _, _, h, q => by
    cases h; obtain ⟨t, e⟩ := q; subst e; exact ⟨[], .int i t, by simp⟩
  | .str x, _, _, h, q => by
    cases h; obtain ⟨t, e⟩ := q; subst e; exact ⟨[], .str x t, by simp⟩
  | .list ds, _, _, h, q => by
    cases h with
    | lst e _ _ n hd =>
      cases q
      obtain ⟨its, rel, ⟨o, m, ho, hc, _, hm⟩, _⟩ := I.list (SqL.of e)
      obtain ⟨as, h1, h2⟩ := DqAll.reads I ds _ its hd rel
      exact ⟨_, .list ho hc hm h1, by simp only [List.mem_cons, not_or]; exact ⟨fun z => n z.symm, h2⟩⟩
  | .tuple ds, _, _, h, q => by
    cases h with
    | tup e hd =>
      cases q
      obtain ⟨its, rel, ⟨o, ho, hc, m, hm⟩, _⟩ := I.tuple e
      obtain ⟨as, h1, h2⟩ := DqAll.reads I ds _ its hd rel
      exact ⟨_, .tuple ho hc hm h1, h2⟩
  | .dict _, _, _, h, q => by
    cases h with
    | dct e =>
      cases q
      obtain ⟨_, nb, vs, rk, o, es, ep, ho, hx, hm, _, rp, _⟩ := dk_of I.hok e
      obtain ⟨h1, h2⟩ := keys_reads (h := s.heap) rk rp
      exact ⟨_, .dict ho hx.1 hm h1 h2, by simp only [List.nil_append, List.append_nil, List.mem_singleton, List.mem_cons, List.not_mem_nil, or_false]; exact fun z => absurd z.symm (by simpa using nb)⟩
theorem DqAll.reads (I : Inv X pins σ H s) : ∀ (ds : List PyData) (vs : List V) (us : List Value), DqAll X.K st r H vs ds → Vals vs us → ∃ as, ReadsAll s.heap us ds as ∧ sysModules ∉ as
  | [], _, _, h, q => by
    cases h; cases q; exact ⟨[], .nil, by simp⟩
  | d :: ds, _, _, h, q => by
    cases h with
    | cons h1 h2 =>
      cases q with
      | cons q1 q2 =>
        obtain ⟨as, e1, n1⟩ := Dq.reads I d _ _ h1 q1
        obtain ⟨bs, e2, n2⟩ := DqAll.reads I ds _ _ h2 q2
        exact ⟨_, .cons e1 e2, by simp only [List.mem_append, not_or]; exact ⟨n1, n2⟩⟩
end
end
/-- repr of such data -/
theorem call_reprQ {X : Cx} (hg : X.A.guards = some []) (hu : X.A.units + 70 < cLine) : CallR X (.builtin "repr")
    (fun xs H Q => ∃ a d st r, xs = [.ref a] ∧ Dq X.K st r H (.ref a) d ∧ d.showable = true ∧ d.depth ≤ 60 ∧ d.shown.length ≤ sizeLine ∧ Q (.str d.shown) H) := by
  intro pins s σ H xs us Q I rv h
  obtain ⟨a, d, st, r, rfl, hd, h1, h3, h4, q⟩ := h
  obtain ⟨u, rfl, rfl⟩ := vals1 rv
  obtain ⟨as, rd, nm⟩ := Dq.reads I d _ _ hd rfl
  exact repr_of_reads' rd h1 (fun _ => nm) hg (by omega) (fun _ _ e => e) (fun h' u tk hk => ⟨.str _, H, I.kept hk, ⟨_, rfl⟩, q⟩) h4

/-! how it lasts -/
section
variable {K : PySem.W.Frag} {st r c : Addr} {H H' : Hp}
structure Lasts (st r : Addr) (H H' : Hp) : Prop where
  tk : TupK H H'
  ls : ∀ a xs, H a = some (.lst xs) → a ≠ st → a ≠ r → H' a = some (.lst xs)
  dk : ∀ a kvs, H a = some (.dK kvs) → H' a = some (.dK kvs)
theorem Lasts.refl : Lasts st r H H := ⟨.refl _, fun _ _ e _ _ => e, fun _ _ e => e⟩
theorem Lasts.of (s : Same H H') : Lasts st r H H' := ⟨.of s, fun a xs e _ _ => s _ _ e, fun a kvs e => s _ _ e⟩
theorem Lasts.ext {t : Nat} (d : DS H st c r t) (x : Ext st r H H') : Lasts st r H H' := by
  refine ⟨x.tup d, fun a xs e n1 n2 => x _ _ e n1 n2, fun a kvs e => ?_⟩
  obtain ⟨cells, rests, hc, hr, _⟩ := d.ex
  exact x _ _ e (ne_of e d.hs (by intro z; cases z)) (ne_of e hr (by intro z; cases z))
theorem Lasts.trans {H2 : Hp} (a : Lasts st r H H') (b : Lasts st r H' H2) : Lasts st r H H2 :=
  ⟨a.tk.trans b.tk, fun p xs e n1 n2 => b.ls _ _ (a.ls _ _ e n1 n2) n1 n2, fun p kvs e => b.dk _ _ (a.dk _ _ e)⟩
theorem Lasts.new {p : Addr} {o : HO} (np : H p = none) : Lasts st r H (upd H p o) := .of (sameNew np)
mutual
theorem Dq.lasts (l : Lasts st r H H') : ∀ {d : PyData} {v : V}, Dq K st r H v d → Dq K st r H' v d
  | .none, _, h => by cases h; exact .non
  | .bool _, _, h => by cases h; exact .bl _
  | .int _, _, h => by cases h; exact .int _
  | .str _, _, h => by cases h; exact .str _
  | .list _, _, h => by
    cases h with
    | lst e n1 n2 n3 hd => exact .lst (l.ls _ _ e n1 n2) n1 n2 n3 (DqAll.lasts l hd)
  | .tuple _, _, h => by
    cases h with
    | tup e hd => exact .tup (l.tk.sq e) (DqAll.lasts l hd)
  | .dict _, _, h => by
    cases h with
    | dct e => exact .dct (l.dk _ _ e)
theorem DqAll.lasts (l : Lasts st r H H') : ∀ {ds : List PyData} {vs : List V}, DqAll K st r H vs ds → DqAll K st r H' vs ds
  | [], _, h => by cases h; exact .nil
  | _ :: _, _, h => by
    cases h with
    | cons h1 h2 => exact .cons (Dq.lasts l h1) (DqAll.lasts l h2)
end
mutual
theorem Dq.of_dp : ∀ {d : PyData} {v : V}, tupOnly d = true → Dp K H v d → Dq K st r H v d
  | .none, _, _, h => by cases h; exact .non
  | .bool _, _, _, h => by cases h; exact .bl _
  | .int _, _, _, h => by cases h; exact .int _
  | .str _, _, _, h => by cases h; exact .str _
  | .list _, _, t, _ => by simp [tupOnly] at t
  | .tuple _, _, t, h => by
    cases h with
    | tup e hd => exact .tup e (DqAll.of_dp (by simpa [tupOnly] using t) hd)
  | .dict _, _, t, _ => by simp [tupOnly] at t
theorem DqAll.of_dp : ∀ {ds : List PyData} {vs : List V}, tupOnlyAll ds = true → DpAll K H vs ds → DqAll K st r H vs ds
  | [], _, _, h => by cases h; exact .nil
  | d :: ds, _, t, h => by
    have t' : tupOnly d = true ∧ tupOnlyAll ds = true := by simpa [tupOnlyAll] using t
    cases h with
    | cons h1 h2 => exact .cons (Dq.of_dp t'.1 h1) (DqAll.of_dp t'.2 h2)
theorem Dq.to_dp : ∀ {d : PyData} {v : V}, tupOnly d = true → Dq K st r H v d → Dp K H v d
  | .none, _, _, h => by cases h; exact .non
  | .bool _, _, _, h => by cases h; exact .bl _
  | .int _, _, _, h => by cases h; exact .int _
  | .str _, _, _, h => by cases h; exact .str _
  | .list _, _, t, _ => by simp [tupOnly] at t
  | .tuple _, _, t, h => by
    cases h with
    | tup e hd => exact .tup e (DqAll.to_dp (by simpa [tupOnly] using t) hd)
  | .dict _, _, t, _ => by simp [tupOnly] at t
theorem DqAll.to_dp : ∀ {ds : List PyData} {vs : List V}, tupOnlyAll ds = true → DqAll K st r H vs ds → DpAll K H vs ds
  | [], _, _, h => by cases h; exact .nil
  | d :: ds, _, t, h => by
    have t' : tupOnly d = true ∧ tupOnlyAll ds = true := by simpa [tupOnlyAll] using t
    cases h with
    | cons h1 h2 => exact .cons (Dq.to_dp t'.1 h1) (DqAll.to_dp t'.2 h2)
end
theorem DqAll.len : ∀ {vs : List V} {ds : List PyData}, DqAll K st r H vs ds → vs.length = ds.length
  | _, _, .nil => rfl
  | _, _, .cons _ t => by simp [DqAll.len t]
theorem DqAll.at : ∀ {vs : List V} {ds : List PyData} {i : Nat} {v : V}, DqAll K st r H vs ds → vs[i]? = some v → ∃ d, ds[i]? = some d ∧ Dq K st r H v d
  | _, _, _, _, .nil, e => by simp at e
  | _, _, 0, _, .cons h _, e => by simp at e; subst e; exact ⟨_, rfl, h⟩
  | _, _, i + 1, v, .cons _ t, e => by
    obtain ⟨d, h1, h2⟩ := DqAll.at (i := i) t (by simpa using e)
    exact ⟨d, by simpa using h1, h2⟩
theorem DqAll.app : ∀ {vs ws : List V} {ds es : List PyData}, DqAll K st r H vs ds → DqAll K st r H ws es → DqAll K st r H (vs ++ ws) (ds ++ es)
  | _, _, _, _, .nil, h => h
  | _, _, _, _, .cons h t, h' => .cons h (DqAll.app t h')
theorem DqAll.snoc {vs : List V} {ds : List PyData} {v : V} {d : PyData} (h : DqAll K st r H vs ds) (h' : Dq K st r H v d) : DqAll K st r H (vs ++ [v]) (ds ++ [d]) := h.app (.cons h' .nil)
theorem DqAll.rev : ∀ {vs : List V} {ds : List PyData}, DqAll K st r H vs ds → DqAll K st r H vs.reverse ds.reverse
  | _, _, .nil => .nil
  | _, _, .cons h t => by rw [List.reverse_cons, List.reverse_cons]; exact (DqAll.rev t).snoc h
theorem DqAll.take : ∀ {vs : List V} {ds : List PyData} (n : Nat), DqAll K st r H vs ds → DqAll K st r H (vs.take n) (ds.take n)
  | _, _, 0, _ => .nil
  | _, _, _ + 1, .nil => .nil
  | _, _, n + 1, .cons h t => .cons h (DqAll.take n t)
theorem DqAll.drop : ∀ {vs : List V} {ds : List PyData} (n : Nat), DqAll K st r H vs ds → DqAll K st r H (vs.drop n) (ds.drop n)
  | _, _, 0, h => h
  | _, _, _ + 1, .nil => .nil
  | _, _, n + 1, .cons _ t => DqAll.drop n t
/-- its type -/
def tyN : PyData → String
  | .none => "NoneType"
  | .bool _ => "bool"
  | .int _ => "int"
  | .str _ => "str"
  | .list _ => "list"
  | .tuple _ => "tuple"
  | .dict _ => "dict"
theorem Dq.ty {d : PyData} {v : V} (h : Dq K st r H v d) : TyX K H v (.type (tyN d)) := by
  cases h with
  | non => exact .base .non
  | bl b => exact .base (.bl b)
  | int i => exact .base (.int i)
  | str x => exact .base (.str x)
  | lst e => exact .base (.lst e)
  | tup e _ =>
    rcases e with (e | ⟨o, e⟩) | ⟨o, its, n, e, hc, _⟩
    · exact .base (.tup e)
    · exact .fTuple e
    · exact .kTuple e hc
  | dct e => exact .base (.dK e)
def isTup : PyData → Bool
  | .tuple _ => true
  | _ => false
def isInt : PyData → Bool
  | .int _ => true
  | .bool _ => true
  | _ => false
def isBool : PyData → Bool
  | .bool _ => true
  | _ => false
theorem kit_tup (d : PyData) : PySem.W.kitOne K (.type (tyN d)) (.type "tuple") = some (isTup d) := by
  have key : ∀ a b : String, ∀ x : Bool, kitB a b = some x → PySem.W.kitOne K (.type a) (.type b) = some x := fun _ _ _ h => kit_ty h
  cases d
  · exact key "NoneType" "tuple" false (by decide +kernel)
  · exact key "bool" "tuple" false (by decide +kernel)
  · exact key "int" "tuple" false (by decide +kernel)
  · exact key "str" "tuple" false (by decide +kernel)
  · exact key "list" "tuple" false (by decide +kernel)
  · exact key "tuple" "tuple" true (by decide +kernel)
  · exact key "dict" "tuple" false (by decide +kernel)
theorem kit_int (d : PyData) : PySem.W.kitOne K (.type (tyN d)) (.type "int") = some (isInt d) := by
  have key : ∀ a b : String, ∀ x : Bool, kitB a b = some x → PySem.W.kitOne K (.type a) (.type b) = some x := fun _ _ _ h => kit_ty h
  cases d
  · exact key "NoneType" "int" false (by decide +kernel)
  · exact key "bool" "int" true (by decide +kernel)
  · exact key "int" "int" true (by decide +kernel)
  · exact key "str" "int" false (by decide +kernel)
  · exact key "list" "int" false (by decide +kernel)
  · exact key "tuple" "int" false (by decide +kernel)
  · exact key "dict" "int" false (by decide +kernel)
theorem kit_bool (d : PyData) : PySem.W.kitOne K (.type (tyN d)) (.type "bool") = some (isBool d) := by
  have key : ∀ a b : String, ∀ x : Bool, kitB a b = some x → PySem.W.kitOne K (.type a) (.type b) = some x := fun _ _ _ h => kit_ty h
  cases d
  · exact key "NoneType" "bool" false (by decide +kernel)
  · exact key "bool" "bool" true (by decide +kernel)
  · exact key "int" "bool" false (by decide +kernel)
  · exact key "str" "bool" false (by decide +kernel)
  · exact key "list" "bool" false (by decide +kernel)
  · exact key "tuple" "bool" false (by decide +kernel)
  · exact key "dict" "bool" false (by decide +kernel)
end
/-! a new list, whose address is none of the machine's own -/
def tLstS (t : TA) : TE := fun σ H Q => t σ H fun xs H1 => xs.length ≤ sizeLine ∧ ∀ p, H1 p = none → p ≠ sysModules → Q (.ref p) (upd H1 p (.lst xs))
section
variable {X : Cx} {es : List Expr} {pos : Pos} {t : TA}
theorem pe_lstS (h : PA X es t) : PE X (.List es pos) (tLstS t) := by
  constructor
  intro pins s σ H Q I hq
  refine wpAny_List_spliced (thn (h.run pos pins s σ H _ I hq) ?_)
  rintro us s1 ⟨xs, H1, I1, rel, z, q⟩
  refine ⟨by rw [← rel.length]; exact z, .ref s1.heap.objs.size, _, ?_, rfl, q _ (I1.hok.fresh (Nat.le_refl _)) (Nat.ne_of_gt I1.big)⟩
  exact I1.laid (t' := s1.toks) (fun b u e => Heap.get?_push_of_some _ e) (Nat.le_refl _) ⟨z, us, 0, rel, Heap.get?_push_size _ rfl⟩
def rListS (K : PySem.W.Frag) : RC := fun xs H Q => ∃ (p : Addr) (ys : List V), xs = [.ref p] ∧ SqT K H p ys ∧ ∀ l, H l = none → l ≠ sysModules → Q (.ref l) (upd H l (.lst ys))
theorem call_listS : CallR X (.type "list") (rListS X.K) := by
  intro pins s σ H xs us Q I rel h
  obtain ⟨p, ys, e, hq, q⟩ := h
  subst e
  obtain ⟨u, e, rx⟩ := vals1 rel
  subst e
  cases rx
  obtain ⟨its, r', ⟨o, ho, hc, n, hd⟩, hz⟩ := I.tuple hq
  have hlen := r'.length
  refine call_list_seq p (.inr rfl) ho hc hd (fun h' c' kp e => ?_) (by simp only [List.size_toArray]; omega)
  exact ⟨.ref s.heap.objs.size, _, I.laid (t' := s.toks) (o := .lst ys) kp (Nat.le_refl _) ⟨hz, its, c', r', e⟩, rfl, q _ (I.hok.fresh (Nat.le_refl _)) (Nat.ne_of_gt I.big)⟩
end
end Pv

/-! t[::-1] of a tuple -/
namespace HT
open PySem PyProof.Rows
section
variable {prog : Program} {w : World} {A : Around} {E : Value → Shared → Prop} {s : Shared}
theorem pv_pickBack (xs : Array Value) : ((List.range xs.size).filterMap fun (k : Nat) => xs[(((xs.size : Int) - 1) + (k : Int) * (-1)).toNat]?) = xs.toList.reverse := by
  apply List.ext_getElem?
  intro i
  have e : ∀ n, n ≤ xs.size → ((List.range n).filterMap fun (k : Nat) => xs[(((xs.size : Int) - 1) + (k : Int) * (-1)).toNat]?) = xs.toList.reverse.take n := by
    intro n
    induction n with
    | zero => intro _; rfl
    | succ n ih =>
      intro hn
      rw [List.range_succ, List.filterMap_append, ih (by omega), List.take_add_one]
      congr 1
      have h1 : (((xs.size : Int) - 1) + (n : Int) * (-1)).toNat = xs.size - 1 - n := by omega
      rw [List.filterMap_cons, List.filterMap_nil, h1, List.getElem?_reverse (by rw [Array.length_toList]; omega), Array.length_toList, Array.getElem?_toList]
      cases xs[xs.size - 1 - n]? <;> rfl
  rw [e xs.size (Nat.le_refl _), List.take_of_length_le (by simp)]
theorem pv_appliedBack {sl : Addr} {n : Nat} {t : Tok} {Q : Int × Int × Nat → Shared → Prop} (hs : s.heap.IsSliceOf sl .none .none (.int (-1) t)) (h : Q ((n : Int) - 1, -1, n) s) :
    wpAny (model prog w) A (Builtin.Slice.sliceApplied (.ref sl) (pure (n : Int))) Q E s := by
  obtain ⟨os, hos, hcs, hds⟩ := id hs
  unfold Builtin.Slice.sliceApplied Builtin.Slice.sliceFields
  refine wpAny_bind (wpAny_bind (wpAny_field hos hds (x := .none) rfl (wpAny_bind (wpAny_field hos hds (x := .none) rfl (wpAny_bind (wpAny_field hos hds (x := .int (-1) t) rfl (wpAny_pure ?_)))))))
  refine wpAny_bind (slicePart_ (IsPart.int (-1) t) ?_)
  show wpAny _ _ (if ((-1 : Int) == 0) = true then _ else _) _ _ s
  rw [if_neg (by decide)]
  refine wpAny_bind (slicePart_ IsPart.none (wpAny_bind (slicePart_ IsPart.none (wpAny_bind (wpAny_pure ?_)))))
  show wpAny _ _ (match Builtin.Slice.sliceAdjust none none (-1) (n : Int) with | (a, b) => pure (a, (-1 : Int), Builtin.Slice.slicePlaces a b (-1))) _ _ s
  have e1 : Builtin.Slice.sliceAdjust none none (-1) (n : Int) = ((n : Int) - 1, -1) := rfl
  rw [e1]
  show wpAny _ _ (pure ((n : Int) - 1, (-1 : Int), Builtin.Slice.slicePlaces ((n : Int) - 1) (-1) (-1))) _ _ s
  have e2 : Builtin.Slice.slicePlaces ((n : Int) - 1) (-1) (-1) = n := by
    unfold Builtin.Slice.slicePlaces
    have h1 : ¬ ((-1 : Int) > 0) := by omega
    simp only [h1, if_false]
    by_cases h2 : (n : Int) - 1 > -1
    · rw [if_pos h2]
      have h3 : -(-1 : Int) = 1 := rfl
      rw [h3, Int.ediv_one]
      omega
    · rw [if_neg h2]; omega
  rw [e2]
  exact wpAny_pure h
theorem pv_getItemBack {p sl : Addr} {items : Array Value} {t : Tok} {Q : Value → Shared → Prop} (ht : IsTup s.heap p items) (hs : s.heap.IsSliceOf sl .none .none (.int (-1) t))
    (h : Q (.ref s.heap.objs.size) { s with heap := s.heap.push { cls := .type "tuple", data := .seq items.toList.reverse.toArray } }) (hsz : items.size ≤ sizeLine) : wpAny (model prog w) A (getItem (.ref p) (.ref sl)) Q E s := by
  have hfit : sizeOk (.seq items.toList.reverse.toArray) := by
    show items.toList.reverse.toArray.size ≤ sizeLine
    rw [List.size_toArray, List.length_reverse]; simpa using hsz
  obtain ⟨os, hos, hcs, hds⟩ := id hs
  have hT : s.TypeIs (.ref sl) "slice" := ⟨os, hos, hcs⟩
  unfold getItem; try with_reducible refine wpAny_holding ?_
  first | refine wpAny_bind (wpAny_pure ?_) | skip
  refine wpAny_bind (wpAny_sequenceKey ht.typeIs (by decide) (wpAny_bind (wpAny_callSpecial?_slot (name := Str.ofString "__getitem__") ht.typeIs PyProof.Rows.slot_tuple_getitem
    (wpAny_call_entry PyProof.Rows.slot_tuple_getitem ht.typeIs entry_tuple_getitem ?_ (args_tuple_getitem _ _)))))
  show wpAny _ _ (Builtin.Tuple.tupleItemsOf (.ref p) >>= _) _ _ s
  refine wpAny_bind (tupleItemsOf_ ht (wpAny_bind (wpAny_typeOf hT ?_)))
  rw [if_pos (by decide)]
  refine wpAny_bind (pv_appliedBack hs ?_)
  show wpAny _ _ (if (((items.size : Int) - 1) == 0 && (-1 : Int) == 1 && items.size == items.size) = true then _ else _) _ _ s
  rw [if_neg (by simp)]
  show wpAny _ _ (Builtin.Tuple.tupleExact ((List.range items.size).filterMap fun (k : Nat) => items[(((items.size : Int) - 1) + (k : Int) * (-1)).toNat]?).toArray >>= _) _ _ s
  rw [pv_pickBack]
  first
    | exact wpAny_bind (m := Builtin.Tuple.tupleExact _) (wpAny_newObj_type (wpAny_pure ⟨_, rfl, wpAny_pure h⟩) hfit)
    | exact wpAny_bind (m := Builtin.Tuple.tupleExact _) (wpAny_newObj_type (wpAny_bind (wpAny_pure (wpAny_pure ⟨_, rfl, wpAny_pure h⟩))) hfit)
    | exact wpAny_bind (wpAny_bind (m := Builtin.Tuple.tupleExact _) (wpAny_newObj_type (wpAny_pure (wpAny_pure ⟨_, rfl, wpAny_pure h⟩)) hfit))
    | exact wpAny_bind (wpAny_bind (m := Builtin.Tuple.tupleExact _) (wpAny_newObj_type (wpAny_pure ⟨_, rfl, wpAny_pure h⟩) hfit))
end
end HT
namespace Pv
open PySem PySem.Spec PyProof.Rows L2
def tRevT (K : PySem.W.Frag) (te : TE) : TE := fun σ H Q => te σ H fun x H1 => ∃ (a : Addr) (xs : List V), x = .ref a ∧ SqT K H1 a xs ∧ ∀ p, H1 p = none → Q (.ref p) (upd H1 p (.tup xs.reverse))
section
variable {X : Cx}
theorem pe_revT {e : Expr} {te : TE} {k : Nat} {p1 p2 p3 pos : Pos} (he : PE X e te) : PE X (.Subscript e (.Slice none none (some (.UnaryOp .USub (.Constant (.int 1) k p1) p2)) p3) pos) (tRevT X.K te) := by
  constructor
  intro pins s σ H Q I h
  refine Subscript_ (thn (he.run pins s σ H _ I h) ?_)
  rintro v s1 ⟨x, H1, I1, r1, a, xs, rfl, hx, q⟩
  cases r1
  have hst : PO X (some (.UnaryOp .USub (.Constant (.int 1) k p1) p2)) (tPart (tUn (rU fun i => .int (-i)) (tC (.int 1)))) := po_some (pe_un un_neg pe_int)
  refine wpAny_Slice (thn (po_none.run pins s1 σ H1 (fun o H2 => o = none ∧ H2 = H1) I1 ⟨rfl, rfl⟩) ?_)
  rintro vl s2 ⟨l, H2, I2, pl, rfl, rfl⟩
  refine thn (po_none.run pins s2 σ H2 (fun o H3 => o = none ∧ H3 = H2) I2 ⟨rfl, rfl⟩) ?_
  rintro vu s3 ⟨u, H3, I3, pu, rfl, rfl⟩
  refine thn (hst.run pins s3 σ H3 (fun o H4 => o = some (-1) ∧ H4 = H3) I3 ⟨1, rfl, -1, rfl, rfl, rfl⟩) ?_
  rintro vs s4 ⟨o, H4, I4, ps, rfl, rfl⟩
  have I5 : Inv X pins σ H4 { s4 with heap := s4.heap.push { cls := .type "slice", data := .fields #[vl, vu, vs] } } := I4.kept (t' := s4.toks) fun b ob q => Heap.get?_push_of_some _ q
  obtain ⟨its, r, ht, hz⟩ := I5.tuple hx
  have hlen := r.length
  cases pl
  cases pu
  cases ps
  show wpAny (model X.prog X.w) X.A (subscriptTail e (.Slice none none (some (.UnaryOp .USub (.Constant (.int 1) k p1) p2)) p3) (.ref a) (.ref s4.heap.objs.size)) (EP X pins σ Q) X.xe _
  refine tail_any (ops := [.ref a, .ref s4.heap.objs.size]) ht.typeIs (PyProof.Rows.slot_tuple_getitem.lookup) ?_ (by with_unfolding_all rfl)
  refine HT.pv_getItemBack ht (Heap.IsSliceOf.new _ _ _ _) ?_ (by rw [List.size_toArray]; omega)
  refine ⟨.ref _, _, I5.laid (t' := s4.toks) (o := .tup xs.reverse) (fun b ob q => Heap.get?_push_of_some _ q) (Nat.le_refl _) ?_, rfl, q _ (I5.hok.fresh (Nat.le_refl _))⟩
  exact ⟨by rw [List.length_reverse]; exact hz, _, r.reverse, IsTup.new _ _⟩
/-! list == [], tuple != () whatever the items are -/
def rEqNil (K : PySem.W.Frag) : R2 := fun x y H Q => ∃ (a b : Addr) (xs : List V), x = .ref a ∧ y = .ref b ∧ SqL K H a xs ∧ SqL K H b [] ∧ Q (.bl xs.isEmpty) H
theorem op_eqNil (hu : X.A.units < cLine) : OpR X (compareOp .Eq) (rEqNil X.K) := by
  intro pins s σ H x y v u Q I rx ry h
  obtain ⟨a, b, xs, rfl, rfl, ha, hb, q⟩ := h
  cases rx
  cases ry
  obtain ⟨its, r1, p1, z1⟩ := I.list ha
  obtain ⟨its2, r2, p2, z2⟩ := I.list hb
  cases r2
  cases xs with
  | nil =>
    cases r1
    exact SeqAt.RcAt.lists (e := fun _ => true) p1.isList p2.isList rfl hu (fun j h1 _ => absurd h1 (Nat.not_lt_zero _)) X.prog X.w _ _ ⟨.bl true, H, I, rfl, q⟩
  | cons x xs =>
    have hl := r1.length
    exact SeqAt.RcAt.lists_lengths p1.isList p2.isList (by rw [List.size_toArray, ← hl]; rfl) hu X.prog X.w _ _ ⟨.bl false, H, I, rfl, q⟩
def rNeNilT (K : PySem.W.Frag) : R2 := fun x y H Q => ∃ (a b : Addr) (xs : List V), x = .ref a ∧ y = .ref b ∧ SqT K H a xs ∧ SqT K H b [] ∧ Q (.bl (!xs.isEmpty)) H
theorem op_neNilT (hu : X.A.units < cLine) : OpR X (compareOp .NotEq) (rNeNilT X.K) := by
  intro pins s σ H x y v u Q I rx ry h
  obtain ⟨a, b, xs, rfl, rfl, ha, hb, q⟩ := h
  cases rx
  cases ry
  obtain ⟨its, r1, p1, z1⟩ := I.tuple ha
  obtain ⟨its2, r2, p2, z2⟩ := I.tuple hb
  cases r2
  have hl := r1.length
  have key := SeqAt.RcNeAt.tuples (A := X.A) (e := fun _ => true) (show s.heap.IsTuple a its.toArray from p1) (show s.heap.IsTuple b ([] : List Value).toArray from p2) hu (fun j _ h2 => absurd h2 (Nat.not_lt_zero _)) X.prog X.w
  have e : (!((List.range (min its.toArray.size ([] : List Value).toArray.size)).all (fun _ => true) && its.toArray.size == ([] : List Value).toArray.size)) = !xs.isEmpty := by
    rw [List.size_toArray, ← hl]
    cases xs <;> simp
  rw [e] at key
  exact key _ _ ⟨.bl _, H, I, rfl, q⟩
end
end Pv

namespace Pv
open PySem PySem.Spec PyProof.Rows L2
/-! errors of the program's own classes -/
abbrev VEbm : List Value := [.type "ValueError", .type "Exception", .type "BaseException", .type "object"]
theorem pmk_own0 {X : Cx} {C : Addr} {bmB : List Value} {B newId initId : String} {x : Str} {p pos : Pos} (F : ExcBaseFacts B newId initId bmB) (q : PySem.W.excIn X.K C bmB newId = true) (gC : X.mg x = some (.ref C))
    (kC : PySem.W.keepIn X.K (.ref C) = true) (r : Raises X (.ref C)) (hg : Gl X x) (hdb : (x == ("__debug__" : Str)) = false := by decide) :
    PMk X (.Call (.Name x p) [] [] pos) (fun _ H Q => Q (.ref C) none H) := by
  intro pins s σ H Q I h
  refine wpAny_Call_Name_kw (ld_glob I hg gC ?_ hdb)
  refine PySem.W.callWith_K0 I.kIn kC ?_
  obtain ⟨bm, N, nm, qn, bs, hdct, sn, sub, ab, col, dd, k0, k1, k2, k3, k5, mN, hC, hN, hni, T⟩ := exc_obj I.kIn q
  show wpAny _ _ (call (.ref C) []) _ _ _
  refine wpAny_call_exc_subT F T hC hN hni (fun h' e hm => ?_) (Nat.zero_le _)
  exact mk_of I hm r h (I.hok.gone hm.new)
/-- what is asked of a class whose errors isinstance is asked of -/
structure IsC (K : PySem.W.Frag) (D : Addr) : Prop where
  cl : (PySem.W.clsIn K D).isSome = true
  hg : PySem.W.findIn K (.ref D) "__getattribute__" = some (some (.builtin "BaseException.__getattribute__"))
  hk : PySem.W.findIn K (.ref D) "__getattr__" = some none
  hs : PySem.W.subIn K (.ref D) (.type "BaseException") = some true
  ty : PySem.W.typeIn K (.ref D) = some (.type "type")
  ha : PySem.W.findIn K (.ref D) "__class__" = some (some (.builtin "object.__class__"))
  hn : PySem.W.specialIn K (.builtin "object.__class__") "__get__" = some (some (.builtin "getset_descriptor.__get__"))
  ht : PySem.W.takesIn K (.builtin "object.__class__") = some true
  hm : PySem.W.mroIn K D (.type "object") = some true
  kp : PySem.W.keepIn K (.ref D) = true
def isCB (K : PySem.W.Frag) (D : Addr) : Bool :=
  (PySem.W.clsIn K D).isSome && (decide (PySem.W.findIn K (.ref D) "__getattribute__" = some (some (.builtin "BaseException.__getattribute__"))) && (decide (PySem.W.findIn K (.ref D) "__getattr__" = some none) &&
  (decide (PySem.W.subIn K (.ref D) (.type "BaseException") = some true) && (decide (PySem.W.typeIn K (.ref D) = some (.type "type")) && (decide (PySem.W.findIn K (.ref D) "__class__" = some (some (.builtin "object.__class__"))) &&
  (decide (PySem.W.specialIn K (.builtin "object.__class__") "__get__" = some (some (.builtin "getset_descriptor.__get__"))) && (decide (PySem.W.takesIn K (.builtin "object.__class__") = some true) &&
  (decide (PySem.W.mroIn K D (.type "object") = some true) && PySem.W.keepIn K (.ref D)))))))))
theorem isCB_ok {K : PySem.W.Frag} {D : Addr} (h : isCB K D = true) : IsC K D := by
  simp only [isCB, Bool.and_eq_true, decide_eq_true_eq] at h
  obtain ⟨h1, h2, h3, h4, h5, h6, h7, h8, h9, h10⟩ := h
  exact ⟨h1, h2, h3, h4, h5, h6, h7, h8, h9, h10⟩
theorem IsC.raises {X : Cx} {D : Addr} (c : IsC X.K D) : Raises X (.ref D) := raises_own c.hs c.ty
/-- isinstance(e, c), e the error that the suite holds, c a class or a tuple of classes -/
def rIsX (K : PySem.W.Frag) (a : Addr) (cls : Value) (d : Option Addr) : RC := fun xs H Q => ∃ (D : Addr) (c : V) (b : Bool), cls = .ref D ∧ IsC K D ∧ (∀ dx, d = some dx → ∃ fs, H dx = some (.xd fs)) ∧ xs = [.ref a, c] ∧
  ((∃ u, ClsV c u ∧ PySem.W.kitOne K (.ref D) u = some b) ∨ ∃ (tp : Addr) (cs : List V) (us : List Value), c = .ref tp ∧ H tp = some (.tup cs) ∧ Paired ClsV cs us ∧ PySem.W.kitAny K (.ref D) us = some b) ∧ Q (.bl b) H
theorem call_isX {X : Cx} {a : Addr} {oe : Obj} {cls : Value} {d : Option Addr} {pn : List (Addr × Obj)} (hz : Zc cls d oe) (hf : ∃ vs, oe.data = .fields vs) : CallR (X.suite a ((a, oe) :: pn)) (.builtin "isinstance") (rIsX X.K a cls d) := by
  intro pins s σ H xs us Q I r h
  obtain ⟨D, c, b, rfl, C, hdx, rfl, hc, q⟩ := h
  obtain ⟨u1, u2, rfl, r1, r2⟩ := vals2 r
  cases (show u1 = Value.ref a from r1)
  obtain ⟨hget, _⟩ := I.pin (a, oe) (List.mem_append.mpr (.inl List.mem_cons_self))
  obtain ⟨vs, hv⟩ := hf
  have J : ∃ od, PySem.W.InstAt s.heap a oe D od := by
    cases d with
    | none =>
      refine ⟨none, hget, hz.1, by unfold PySem.W.notCls; rw [hv] <;> rfl, ?_⟩
      rw [hz.2]; trivial
    | some dx =>
      obtain ⟨fs, e⟩ := hdx dx rfl
      have hx : ObjOk X.prog X.w H s.heap dx (.xd fs) := I.hok dx _ e
      obtain ⟨mA, hns, _⟩ := hx
      obtain ⟨od, ho, _⟩ := lookIn_ns hns
      exact ⟨some od, hget, hz.1, by unfold PySem.W.notCls; rw [hv] <;> rfl, by rw [hz.2]; exact ho⟩
  obtain ⟨od, J⟩ := J
  have Z := PySem.W.kitx_exc (K := X.K) (x := a) (C := D) (ox := oe) (od := od) C.cl C.hg C.hk C.hs C.ha C.hn C.ht C.hm
  rcases hc with ⟨u, ku, e⟩ | ⟨tp, cs, ws, rfl, hT, ks, e⟩
  · have e2 := ku.eq r2
    subst e2
    exact PySem.W.kia_one Z I.kIn J e (fun z => nomatch z) fun tk => ⟨.bl b, H, I.kept (t' := tk) fun _ _ z => z, rfl, q⟩
  · cases (show u2 = Value.ref tp from r2)
    obtain ⟨_, its, rv, o, h1, h2, n, h3⟩ := (show ObjOk X.prog X.w H s.heap tp (.tup cs) from I.hok tp _ hT)
    have e3 := ClsV.all ks rv
    subst e3
    obtain ⟨oc, od', dt, sl⟩ := o
    simp only at h2 h3
    subst h2 h3
    exact PySem.W.kia_tup Z I.kIn J h1 e (fun z => nomatch z) fun tk => ⟨.bl b, H, I.kept (t' := tk) fun _ _ z => z, rfl, q⟩
end Pv

namespace Pv
open PySem PySem.Spec PyProof.Rows L2
/-! an error with one field of its own -/
def inCls (st : Stmt) (i : Nat) : Stmt := match st with
  | .ClassDef _ _ _ body _ _ _ _ _ _ _ => body.getD i (.Pass ⟨0, 0, 0, 0⟩)
  | _ => .Pass ⟨0, 0, 0, 0⟩
def spI1 (C : Addr) (fld : Str) : Sp := fun vs H Q _ => ∃ (a : Addr) (v : V), vs = [.ref a, v] ∧ H a = some (exo a C none) ∧ ∀ dx, H dx = none → dx ≠ a → Q .non (upd (upd H dx (exd dx [(fld, v)])) a (exo a C (some dx)))
theorem mkO1 {C : Addr} {fld : Str} {v : V} {H1 : Hp} {Q : XK} (h : ∀ d, H1 d = none → Q (.ref C) (some d) (upd H1 d (.xd [(fld, v)]))) :
    [v].length ≤ 1000 ∧ ∀ a, H1 a = none → spI1 C fld (.ref a :: ([v] ++ [])) (upd H1 a (exo a C none))
      (fun v' H2 => v' = .non ∧ ∃ (d : Addr) (fs : List (Str × V)), H2 a = some (exo a C (some d)) ∧ H2 d = some (exd d fs) ∧ H1 d = none ∧ Q (.ref C) (some d) (upd (del H2 a) d (.xd fs))) (fun _ _ _ => False) := by
  refine ⟨by simp, fun a na => ⟨a, v, rfl, upd_same, fun dx nd ne => ⟨rfl, dx, [(fld, v)], upd_same, ?_, ?_, ?_⟩⟩⟩
  · rw [upd_ne ne]; exact upd_same
  · rw [upd_ne ne] at nd; exact nd
  · have nd1 : H1 dx = none := by rw [upd_ne ne] at nd; exact nd
    have e : upd (del (upd (upd (upd H1 a (exo a C none)) dx (exd dx [(fld, v)])) a (exo a C (some dx))) a) dx (.xd [(fld, v)]) = upd H1 dx (.xd [(fld, v)]) := by
      funext b
      by_cases hb : b = dx
      · rw [hb, upd_same, upd_same]
      · rw [upd_ne hb, upd_ne hb]
        by_cases ha : b = a
        · rw [ha, del_same, na]
        · rw [del_ne ha, upd_ne ha, upd_ne hb, upd_ne ha]
    rw [e]
    exact h dx nd1
/-- what the written part says of such a class -/
structure XF (K : PySem.W.Frag) (C fI : Addr) (fld : Str) : Prop where
  T : OexC K C
  iC : PySem.W.findIn K (.ref C) "__init__" = some (some (.ref fI))
  tI : PySem.W.typeIn K (.ref fI) = some (.type "function")
  no : PySem.W.findIn K (.ref C) fld = some none
  rd : XfC K C
def xf1B (K : PySem.W.Frag) (C fI : Addr) (fld : Str) : Bool :=
  decide (PySem.W.findIn K (.ref C) "__setattr__" = some (some (.builtin "object.__setattr__"))) && (decide (PySem.W.subIn K (.ref C) (.type "BaseException") = some true) && (decide (PySem.W.typeIn K (.ref C) = some (.type "type")) && (PySem.W.keepIn K (.ref C) &&
  (decide (PySem.W.findIn K (.ref C) "__init__" = some (some (.ref fI))) && (decide (PySem.W.typeIn K (.ref fI) = some (.type "function")) && (decide (PySem.W.findIn K (.ref C) fld = some none) && xfB K C))))))
theorem xf1B_ok {K : PySem.W.Frag} {C fI : Addr} {fld : Str} (h : xf1B K C fI fld = true) (c : ∃ nm q N bs bm sn sub ab col dd k0 k1 k2 k3 k5, K.lookup C = some (excClassObj nm q C N bs bm true sn sub ab col dd k0 k1 k2 k3 k5 "ValueError.__new__") ∧ PySem.HandSPX.refsVE bm = true) : XF K C fI fld := by
  simp only [xf1B, Bool.and_eq_true, decide_eq_true_eq] at h
  obtain ⟨h1, h2, h3, h4, h5, h6, h7, h8⟩ := h
  exact ⟨⟨c, h1, h2, h3, h4⟩, h5, h6, h7, xfB_ok h8⟩
end Pv

namespace Pv
open PySem PySem.Spec PyProof.Rows L2
def topS (i : Nat) : Stmt := PySem.Challenge.pw_postvote_k14_margin_certificates_judged.main.body.getD i (.Pass ⟨0, 0, 0, 0⟩)
abbrev sDraw : Stmt := topS 32
abbrev sStart : Stmt := topS 31
abbrev sOne : Stmt := topS 33
theorem scDraw : FnScope ["_law_stream_here", "_law_bound", "_law_cells", "_law_rests", "_law_count", "_law_place", "_law_digit", "_law_mixed"] ["_law_stream_here", "_law_bound"] (defScope sDraw) :=
  ⟨rfl, rfl, rfl, by decide +kernel, rfl, by decide +kernel, by decide +kernel⟩
theorem scStart : FnScope ["_law_script", "_law_cells", "_law_cell"] ["_law_script"] (defScope sStart) := ⟨rfl, rfl, rfl, by decide +kernel, rfl, by decide +kernel, by decide +kernel⟩
theorem scOne : FnScope ["_law_stream_here", "_law_items"] ["_law_stream_here", "_law_items"] (defScope sOne) := ⟨rfl, rfl, rfl, by decide +kernel, rfl, by decide +kernel, by decide +kernel⟩
section
variable {P : Program} {w : World} {K : PySem.W.Frag} {mg : Str → Option Value} {base : Heap}
def spDraw : Sp := fun vs H Q _ => ∃ (st c r : Addr) (t : Nat) (m : Int), vs = [.ref st, .int m] ∧ DS H st c r t ∧ t < 1000000 ∧ 0 < m ∧ m ≤ 2 ^ 60 ∧
  ∀ (H' : Hp) (d : Int), 0 ≤ d → d < m → DS H' st c r (t + 1) → Ext st r H H' → Q (.int d) H'
set_option maxHeartbeats 1000000 in
theorem ok_draw {f : Addr} {fd : FuncData} {k : Nat} (F : Fun K "_law_draw" "_law_draw" sDraw f fd) (ml : mg "len" = none) : FnOk P w K mg base CX0 (k + 1) f fd ["_law_stream_here", "_law_bound"] spDraw := by
  refine F.ok scDraw (fun vs H Q E h => ?_) (fun cdv A outer s H vs Q E hr h => ?_)
  · obtain ⟨st, c, r, t, m, rfl, _⟩ := h
    rfl
  · obtain ⟨st, c, r, t, m, rfl, hd, ht, hm, hm2, q⟩ := h
    obtain ⟨cells, rests, hc, hrr, hl, hl0, hl1, hnn⟩ := hd.ex
    refine ⟨_, pss_cons (ps_asg (pv 0) (pg_unl rfl (pgs_cons (pg_name (i := 2) scDraw.nd rfl (.inl rfl)) (pgs_cons (pg_name (i := 3) scDraw.nd rfl (.inl rfl)) (pgs_cons (pg_name (i := 4) scDraw.nd rfl (.inl rfl)) pgs_nil)))))
      (pss_cons (ps_set (i := 5) scDraw.nd rfl (.inl rfl) (pe_op op_mod (pv 4) (pe_callB call_len_seq (by rfl) ml PySem.boot_len (pa_cons (pv 2) pa_nil))))
      (pss_cons (ps_asg (pe_op op_add (pv 4) pe_int) (pg_sub (pv 0) pe_int set_list))
      (pss_cons (ps_if (pt_cmpR op_gt (pe_ix ix_list (pv 3) (pv 5) (fun _ _ => rfl)) pe_int (nomark _))
        (pss_cons (ps_set (i := 6) scDraw.nd rfl (.inl rfl) (pe_op op_mod (pe_ix ix_list (pv 3) (pv 5) (fun _ _ => rfl)) (pv 1)))
        (pss_cons (ps_asg (pe_op op_fdivW (pe_ix ix_list (pv 3) (pv 5) (fun _ _ => rfl)) (pv 1)) (pg_sub (pv 3) (pv 5) set_list))
        (pss_one (ps_ret (pv 6))))) pss_nil)
      (pss_cons (ps_set (i := 7) scDraw.nd rfl (.inl rfl) (pe_op op_mod (pe_op op_pow (pe_op op_add (pe_op op_add (pe_op op_mod (pe_ix ix_list (pv 2) (pv 5) (fun _ _ => rfl)) pe_int) (pe_op op_mul pe_int (pv 4))) pe_int) pe_int) pe_int))
      (pss_cons (ps_set (i := 7) scDraw.nd rfl (.inl rfl) (pe_op op_mod (pe_op op_pow (pe_op op_add (pe_op op_add (pv 7) (pe_op op_mul pe_int (pe_op op_mod (pv 4) pe_int))) pe_int) pe_int) pe_int))
      (pss_one (ps_ret (pe_op op_mod (pe_op op_fdiv (pv 7) pe_int) (pv 1))))))))), ?_⟩
    -- the unpacking
    refine ⟨.ref st, rfl, st, _, rfl, SqL.of hd.hs, rfl, .ref c, _, rfl, .ref r, _, rfl, .int t, _, rfl, rfl, ?_⟩
    -- spot
    refine ⟨.int t, rfl, .ref c, rfl, c, _, rfl, .inl (SqL.of hc), _, _, rfl, rfl, by rw [List.length_map]; omega, ?_⟩
    have hn : (List.map V.int cells).length = cells.length := List.length_map ..
    have hsp : ((t : Int) % (((List.map V.int cells).length : Nat) : Int)) = ((t % cells.length : Nat) : Int) := by rw [hn]; norm_cast
    have hlt : t % cells.length < cells.length := Nat.mod_lt _ hl0
    generalize hj : t % cells.length = j at hsp hlt
    obtain ⟨x, hx⟩ : ∃ x, rests[j]? = some x := ⟨rests[j], List.getElem?_eq_getElem (by omega)⟩
    obtain ⟨y, hy⟩ : ∃ y, cells[j]? = some y := ⟨cells[j], List.getElem?_eq_getElem (by omega)⟩
    have hx0 : 0 ≤ x := hnn x (List.mem_of_getElem? hx)
    have hxv : (rests.map V.int)[j]? = some (.int x) := by rw [List.getElem?_map, hx]; rfl
    have hyv : (cells.map V.int)[j]? = some (.int y) := by rw [List.getElem?_map, hy]; rfl
    dsimp only
    rw [hsp]
    -- state[2] = turn + 1
    refine ⟨.int t, rfl, _, _, rfl, rfl, .ref st, rfl, st, _, 2, 2, rfl, rfl, hd.hs, rfl, ?_⟩
    have e1 : (upd H st (.lst [.ref c, .ref r, .int ((t : Int) + 1)])) r = some (.lst (rests.map V.int)) := by rw [upd_ne hd.n3.symm]; exact hrr
    have e2 : (upd H st (.lst [.ref c, .ref r, .int ((t : Int) + 1)])) c = some (.lst (cells.map V.int)) := by rw [upd_ne hd.n2.symm]; exact hc
    have ex0 : Ext st r H (upd H st (.lst [.ref c, .ref r, .int ((t : Int) + 1)])) := fun b o h n1 _ => by rw [upd_ne n1]; exact h
    have d0 : DS (upd H st (.lst [.ref c, .ref r, .int ((t : Int) + 1)])) st c r (t + 1) := ⟨upd_same, ⟨cells, rests, e2, e1, hl, hl0, hl1, hnn⟩, hd.n1, hd.n2, hd.n3⟩
    -- if rests[spot] > 0
    refine ⟨.ref r, rfl, .int j, rfl, r, _, _, .int x, rfl, rfl, SqL.of e1, atI_nat hxv, _, _, rfl, rfl, _, rfl, ite2 (fun hgt => ?_) (fun hle => ?_)⟩
    · refine ⟨.ref r, rfl, .int j, rfl, r, _, _, .int x, rfl, rfl, SqL.of e1, atI_nat hxv, .int m, rfl, _, _, rfl, rfl, hm, ?_⟩
      refine ⟨.ref r, rfl, .int j, rfl, r, _, _, .int x, rfl, rfl, SqL.of e1, atI_nat hxv, .int m, rfl, _, _, rfl, rfl, wide_div (b := 61) hm (by omega) (by decide) (by decide), ?_⟩
      refine ⟨.ref r, rfl, .int j, rfl, r, _, _, j, rfl, rfl, e1, ?_, ?_⟩
      · unfold ixN
        rw [if_pos (by omega), if_pos (by rw [List.length_map]; omega)]
        simp
      · refine ⟨_, rfl, q _ _ (Int.emod_nonneg _ (by omega)) (Int.emod_lt_of_pos _ hm) ?_ ?_⟩
        · refine ⟨by rw [upd_ne hd.n3]; exact upd_same, ⟨cells, rests.set j (x / m), by rw [upd_ne hd.n1]; exact e2, by rw [upd_same, List.map_set], by rw [List.length_set]; exact hl, hl0, hl1, ?_⟩, hd.n1, hd.n2, hd.n3⟩
          intro z hz
          rcases List.mem_or_eq_of_mem_set hz with h | h
          · exact hnn z h
          · rw [h]; exact Int.ediv_nonneg hx0 (by omega)
        · exact fun b o h n1 n2 => by rw [upd_ne n2]; exact ex0 b o h n1 n2
    · -- mixed
      have hy1 : 0 ≤ y % 2147483579 := Int.emod_nonneg _ (by decide)
      have hy2 : y % 2147483579 < 2147483579 := Int.emod_lt_of_pos _ (by decide)
      refine ⟨.ref c, rfl, .int j, rfl, c, _, _, .int y, rfl, rfl, SqL.of e2, atI_nat hyv, _, _, rfl, rfl, (by show (0 : Int) < 2147483579; decide), .int t, rfl, _, _, rfl, rfl, .inl ⟨by decide, by decide⟩, _, _, rfl, rfl, _, _, rfl, rfl, _, _, rfl, rfl, ⟨by decide, by decide, by omega⟩, _, _, rfl, rfl, (by show (0 : Int) < 2147483587; decide), ?_⟩
      dsimp only
      generalize hu : (y % 2147483579 + 60101 * (t : Int) + 271) ^ (3 : Int).toNat % 2147483587 = u
      have hu1 : 0 ≤ u := by rw [← hu]; exact Int.emod_nonneg _ (by decide)
      have hu2 : u < 2147483587 := by rw [← hu]; exact Int.emod_lt_of_pos _ (by decide)
      have hc1 : 0 ≤ (t : Int) % 983 := Int.emod_nonneg _ (by decide)
      have hc2 : (t : Int) % 983 < 983 := Int.emod_lt_of_pos _ (by decide)
      refine ⟨.int u, rfl, .int t, rfl, _, _, rfl, rfl, (by show (0 : Int) < 983; decide), _, _, rfl, rfl, .inl ⟨by decide, by decide⟩, _, _, rfl, rfl, _, _, rfl, rfl, _, _, rfl, rfl, ⟨by decide, by decide, by omega⟩, _, _, rfl, rfl, (by show (0 : Int) < 2305843009213693951; decide), ?_⟩
      refine ⟨_, rfl, _, _, rfl, rfl, ⟨by decide, by decide⟩, .int m, rfl, _, _, rfl, rfl, hm, ?_⟩
      exact q _ _ (Int.emod_nonneg _ (by omega)) (Int.emod_lt_of_pos _ hm) d0 ex0
def spStart (K : PySem.W.Frag) : Sp := fun vs H Q _ => ∃ (a : Addr) (ns : List Int), vs = [.ref a] ∧ SqL K H a (ns.map V.int) ∧ ns.length ≤ 63 ∧
  ∀ H' st c r, Same H H' → DS H' st c r 0 → Q (.ref st) H'
set_option maxHeartbeats 2000000 in
theorem ok_start {f : Addr} {fd : FuncData} {k : Nat} (F : Fun K "_law_stream" "_law_stream" sStart f fd) (ma : mg "abs" = none) (mi : mg "int" = none) (ml : mg "len" = none) :
    FnOk P w K mg base CX0 (k + 1) f fd ["_law_script"] (spStart K) := by
  refine F.ok scStart (fun vs H Q E h => ?_) (fun cdv A outer s H vs Q E hr h => ?_)
  · obtain ⟨a, ns, rfl, _⟩ := h; rfl
  · obtain ⟨a, ns, rfl, hS, hn, q⟩ := h
    refine ⟨_, pss_cons (ps_set (i := 1) scStart.nd rfl (.inl rfl) (pe_op op_cat
        (pe_lc (own := [("_law_cell", 2)]) (g := gName 2) (tt := tYes) rfl scStart.nd (pi_list (pe_slice sl_list (pv 0) po_none (po_some pe_int))) (blkOk_by (N := ["_law_script", "_law_cells", "_law_cell"]) (sc := defScope sStart) (by decide +kernel))
            (fun _ _ _ _ _ => pg_name (i := 2) scStart.nd rfl (.inl rfl)) (fun _ _ _ _ _ => pts_nil)
            (fun _ _ _ _ _ => pe_callB call_abs (by rfl) ma (by decide +kernel) (pa_cons (pv 2) pa_nil)))
        (pe_op op_rep (pe_lst (pa_cons pe_int pa_nil)) (pe_callTy call_int1 (by rfl) mi (by decide +kernel) (pa_cons (pe_cmpR op_eq (pe_callB call_len_seq (by rfl) ml PySem.boot_len (pa_cons (pv 0) pa_nil)) pe_int (nomark _)) pa_nil)))))
      (pss_one (ps_ret (pe_lst (pa_cons (pv 1) (pa_cons
        (pe_lc (own := [("_law_cell", 2)]) (g := gName 2) (tt := tYes) rfl scStart.nd (pi_list (pv 1)) (blkOk_by (N := ["_law_script", "_law_cells", "_law_cell"]) (sc := defScope sStart) (by decide +kernel))
            (fun _ _ _ _ _ => pg_name (i := 2) scStart.nd rfl (.inl rfl)) (fun _ _ _ _ _ => pts_nil)
            (fun _ _ _ _ _ => pe_op op_mul (pv 2) (pe_callTy call_int1 (by rfl) mi (by decide +kernel) (pa_cons (pe_cmpR op_ge (pv 2) (pe_op op_pow pe_int pe_int) (nomark _)) pa_nil))))
        (pa_cons pe_int pa_nil)))))), ?_⟩
    have hcut : cutV (ns.map V.int) none (some 60) = (ns.take 60).map V.int := by rw [List.map_take]; exact cut_to _ 60
    refine ⟨.ref a, rfl, 60, rfl, a, _, rfl, hS, fun p np => ⟨p, rfl, ⟨_, SqL.of upd_same⟩, fun D nD => lc_list (xs := cutV (ns.map V.int) none (some 60))
      (fun j H2 => Same (upd H p (.lst (cutV (ns.map V.int) none (some 60)))) H2 ∧ H2 D = some (.lst ((((ns.take 60).map absI).take j).map V.int)))
      ⟨sameNew nD, upd_same⟩ (fun j H2 _ h2 => SqL.of (h2.1 _ _ upd_same)) ?_ ?_⟩⟩
    · rintro j x H2 hx ⟨s2, e2⟩
      rw [hcut, List.getElem?_map] at hx
      obtain ⟨z, hz, rfl⟩ := Option.map_eq_some_iff.mp hx
      refine ⟨rfl, .int z, rfl, z, rfl, _, e2, ?_, samePut s2 nD, ?_⟩
      · rw [List.length_map, List.length_take]; simp; exact small (by omega)
      · rw [upd_same, take_snoc (show ((ns.take 60).map absI)[j]? = some (absI z) by rw [List.getElem?_map, hz]; rfl), List.map_append]; rfl
    · rintro H2 ⟨s2, e2⟩
      rw [hcut, List.length_map, List.take_of_length_le (by simp)] at e2
      have s02 : Same H H2 := (sameNew np).trans s2
      -- [0] * int(len(script) == 0)
      refine ⟨by decide, fun p1 n1 => ⟨.ref a, rfl, a, _, rfl, .inl (((s02.trans (sameNew n1))).seq hS), rfl, .inr ⟨_, rfl, p1, _, _, rfl, rfl, upd_same, by split <;> decide, by split <;> decide, by split <;> decide, fun p2 n2 => ?_⟩⟩⟩
      generalize hb : decide (V.int ((List.map V.int ns).length : Int) = V.int 0) = b at n2 ⊢
      have e2' := upNew n2 (o := .lst (List.replicate (if b = true then (1 : Int) else 0).toNat [V.int 0]).flatten) (upNew n1 (o := .lst [.int 0]) e2)
      have hl0 : ns.length = 0 ↔ b = true := by
        rw [← hb, decide_eq_true_eq, List.length_map]
        constructor
        · intro h; rw [h]; rfl
        · intro h; have := V.int.inj h; omega
      have hrep : (List.replicate (if b = true then (1 : Int) else 0).toNat [V.int 0]).flatten = ((if b = true then [0] else []) : List Int).map V.int := by
        cases b <;> rfl
      refine ⟨D, p2, _, _, rfl, rfl, e2', upd_same, ?_, fun C nC => ?_⟩
      · rw [hrep, List.length_map, List.length_map, List.length_map, List.length_take]; have : (if b = true then [0] else [] : List Int).length ≤ 1 := by split <;> simp
        have h5 := small (n := 100) (by omega); omega
      rw [hrep, ← List.map_append] at *
      generalize hcl : (List.take 60 ns).map absI ++ (if b = true then [0] else []) = cells
      have hnn : ∀ c ∈ cells, 0 ≤ c := by
        intro c hc
        rw [← hcl, List.mem_append] at hc
        rcases hc with h | h
        · obtain ⟨i, _, rfl⟩ := List.mem_map.mp h; exact absI_nn i
        · split at h
          · simp at h; omega
          · simp at h
      have hcl0 : 0 < cells.length ∧ cells.length ≤ 61 := by
        rw [← hcl, List.length_append, List.length_map, List.length_take]
        by_cases hb1 : b = true
        · rw [if_pos hb1]; simp; omega
        · rw [if_neg hb1]
          have : ns.length ≠ 0 := fun z => hb1 (hl0.mp z)
          simp; omega
      generalize hHC : upd (upd (upd H2 p1 (.lst [.int 0])) p2 (.lst (((if b = true then [0] else []) : List Int).map V.int))) C (.lst (cells.map V.int)) = HC
      have eC : HC C = some (.lst (cells.map V.int)) := by rw [← hHC]; exact upd_same
      have s0C : Same H HC := by rw [← hHC]; exact ((s02.trans (sameNew n1)).trans (sameNew n2)).trans (sameNew nC)
      refine ⟨.ref C, rfl, .ref C, rfl, C, rfl, ⟨_, SqL.of eC⟩, fun R nR => lc_list (xs := cells.map V.int)
        (fun j H3 => Same HC H3 ∧ H3 R = some (.lst (((cells.map restI).take j).map V.int))) ⟨sameNew nR, upd_same⟩ (fun j H3 _ h3 => SqL.of (h3.1 _ _ eC)) ?_ ?_⟩
      · rintro j x H3 hx ⟨s3, e3⟩
        rw [List.getElem?_map] at hx
        obtain ⟨z, hz, rfl⟩ := Option.map_eq_some_iff.mp hx
        refine ⟨rfl, .int z, rfl, .int z, rfl, _, _, rfl, rfl, ⟨by decide, by decide, by decide⟩, _, _, rfl, rfl, .inr ⟨_, rfl, _, _, rfl, rfl, .inr ⟨by split <;> decide, by split <;> decide⟩, _, e3, ?_, samePut s3 nR, ?_⟩⟩
        · rw [List.length_map, List.length_take, List.length_map]; exact small (by omega)
        · rw [upd_same, List.take_add_one, List.getElem?_map, hz]; simp [restI]
      · rintro H3 ⟨s3, e3⟩
        rw [List.length_map, List.take_of_length_le (by rw [List.length_map]; exact Nat.le_refl _)] at e3
        refine ⟨(show (3 : Nat) ≤ sizeLine by decide), fun st nst => q _ st C R ((s0C.trans s3).trans (sameNew nst)) ⟨upd_same, ⟨cells, cells.map restI, upNew nst (s3 _ _ eC), upNew nst e3, by rw [List.length_map], hcl0.1, by omega, ?_⟩, ne_of_none eC nR, ?_, ?_⟩⟩
        · intro x hx
          obtain ⟨c, hc, rfl⟩ := List.mem_map.mp hx
          exact restI_nn (hnn c hc)
        · exact (ne_of_none (s3 _ _ eC) nst).symm
        · exact (ne_of_none e3 nst).symm
def spOne (K : PySem.W.Frag) : Sp := fun vs H Q _ => ∃ (st c r l : Addr) (t : Nat) (xs : List V), vs = [.ref st, .ref l] ∧ DS H st c r t ∧ t < 1000000 ∧ H l = some (.lst xs) ∧ l ≠ st ∧ l ≠ r ∧ 0 < xs.length ∧ xs.length ≤ 1000 ∧
  ∀ (H' : Hp) (j : Nat) (x : V), xs[j]? = some x → DS H' st c r (t + 1) → Ext st r H H' → Q x H'
theorem ok_one {f fD : Addr} {fd fdD : FuncData} {k : Nat} (F : Fun K "_law_one" "_law_one" sOne f fd)
    (FD : Fun K "_law_draw" "_law_draw" sDraw fD fdD) (bD : Binds K fdD ["_law_stream_here", "_law_bound"] []) (gD : mg "_law_draw" = some (.ref fD)) (GD : FnOk P w K mg base CX0 1 fD fdD ["_law_stream_here", "_law_bound"] spDraw)
    (ml : mg "len" = none) : FnOk P w K mg base CX0 (1 + k + 1) f fd ["_law_stream_here", "_law_items"] (spOne K) := by
  refine F.ok scOne (fun vs H Q E h => ?_) (fun cdv A outer s H vs Q E hr h => ?_)
  · obtain ⟨st, c, r, l, t, xs, rfl, _⟩ := h; rfl
  · obtain ⟨st, c, r, l, t, xs, rfl, hd, ht, hl, n1, n2, hp, hz, q⟩ := h
    refine ⟨_, pss_one (ps_ret (pe_ix ix_list (pv 1) (pe_call GD (hr.mono (by omega)) (by rfl) gD FD.kp bD .nil pass0 (pa_cons (pv 0) (pa_cons (pe_callB call_len_seq (by rfl) ml PySem.boot_len (pa_cons (pv 1) pa_nil)) pa_nil))) (fun _ _ => rfl))), ?_⟩
    refine ⟨.ref l, rfl, .ref st, rfl, .ref l, rfl, l, _, rfl, .inl (SqL.of hl), st, c, r, t, _, rfl, hd, ht, by omega, by omega, fun H1 d h0 h1 D1 X1 => ?_⟩
    have hj : d.toNat < xs.length := by omega
    have e : xs[d.toNat]? = some xs[d.toNat] := List.getElem?_eq_getElem hj
    refine ⟨l, xs, d, xs[d.toNat], rfl, rfl, SqL.of (X1 _ _ hl n1 n2), ?_, q _ _ _ e D1 X1⟩
    have := atI_nat e
    rwa [Int.toNat_of_nonneg h0] at this
end
end Pv

namespace Pv
open PySem PySem.Spec PyProof.Rows L2
abbrev sSame : Stmt := topS 34
theorem scSame : FnScope ["_law_found", "_law_due_here", "_law_one_here", "_law_other"] ["_law_found", "_law_due_here"] (defScope sSame) := ⟨rfl, rfl, rfl, by decide +kernel, rfl, by decide +kernel, by decide +kernel⟩
theorem ps_never {X : Cx} {st : Stmt} : PS X st (fun _ _ _ => False) := ⟨fun _ _ _ _ _ _ h => h.elim⟩
theorem walk_zipL {K : PySem.W.Frag} {a b : Addr} {xs ys : List V} {n : Nat} (hn : n = min xs.length ys.length) :
    Walk (Itz K a b) n (fun H => SqL K H a xs ∧ SqL K H b ys) (YPair (fun i => xs[i]?) (fun i => ys[i]?)) := by
  subst hn
  constructor
  · rintro i H hi ⟨q1, q2⟩
    have h1 : i < xs.length := by omega
    have h2 : i < ys.length := by omega
    exact ⟨xs, ys, xs[i], ys[i], q1, q2, by simp [h1], by simp [h2]⟩
  · rintro H ⟨q1, q2⟩
    exact ⟨xs, ys, q1, q2, by omega⟩
  · rintro i H v H' _ ⟨q1, q2⟩ ⟨T, x, z, h1, h2, h3, h4, h5⟩
    exact ⟨T, x, z, h1, h2, h3, h4 xs q1, h5 ys q2⟩
mutual
def plain : PyData → Bool
  | .none | .int _ | .bool _ | .str _ => true
  | .list xs | .tuple xs => decide (xs.length ≤ 1000) && plainAll xs
  | _ => false
def plainAll : List PyData → Bool
  | [] => true
  | x :: xs => plain x && plainAll xs
end
theorem plainAll_at : ∀ {xs : List PyData} {i : Nat} {d : PyData}, plainAll xs = true → xs[i]? = some d → plain d = true
  | [], _, _, _, e => by simp at e
  | x :: xs, 0, d, h, e => by simp [plainAll] at h e; subst e; exact h.1
  | x :: xs, i + 1, d, h, e => by simp [plainAll] at h e; exact plainAll_at h.2 e
theorem depthAll_at : ∀ {xs : List PyData} {i : Nat} {d : PyData}, xs[i]? = some d → d.depth ≤ PyData.depthAll xs
  | [], _, _, e => by simp at e
  | x :: xs, 0, d, e => by simp at e; subst e; simp only [PyData.depthAll]; omega
  | x :: xs, i + 1, d, e => by
    have := depthAll_at (xs := xs) (i := i) (d := d) (by simpa using e)
    simp only [PyData.depthAll]; omega
inductive SeqAs (K : PySem.W.Frag) (H : Hp) (a : Addr) (xs : List V) : String → Prop
  | l : SqL K H a xs → SeqAs K H a xs "list"
  | t : SqT K H a xs → SeqAs K H a xs "tuple"
section
variable {K : PySem.W.Frag} {H H' : Hp} {a : Addr} {xs : List V} {T : String}
theorem SeqAs.same (h : SeqAs K H a xs T) (s : Same H H') : SeqAs K H' a xs T := by
  cases h with
  | l h => exact .l (s.seq h)
  | t h => exact .t ((TupK.of s).sq h)
theorem SeqAs.ty (h : SeqAs K H a xs T) : TyX K H (.ref a) (.type T) := by
  cases h with
  | l h => exact ty_sqL h
  | t h => exact ty_sq h
theorem SeqAs.or (h : SeqAs K H a xs T) : SqL K H a xs ∨ SqT K H a xs := by
  cases h with
  | l h => exact .inl h
  | t h => exact .inr h
theorem SeqAs.ix (h : SeqAs K H a xs T) {j : Nat} {v : V} {Q : VK} (e : xs[j]? = some v) (q : Q v H) : rIx K (.ref a) (.int j) H Q := by
  cases h with
  | l h => exact .inl ⟨a, xs, _, v, rfl, rfl, h, atI_nat e, q⟩
  | t h => exact .inr (.inl ⟨a, xs, _, v, rfl, rfl, h, atI_nat e, q⟩)
theorem SeqAs.kit (h : SeqAs K H a xs T) (S : String) (hS : S = "list" ∨ S = "tuple") : PySem.W.kitOne K (.type T) (.type S) = some (T == S) := by
  cases h <;> rcases hS with rfl | rfl <;> exact kit_ty (by decide +kernel)
theorem SeqAs.kits (h : SeqAs K H a xs T) : PySem.W.kitAny K (.type T) [.type "tuple", .type "list"] = some true := by
  cases h with
  | l h => exact kitAny_cons (kit_ty (b := "tuple") (r := false) (by decide +kernel)) (fun _ => kitAny_cons (kit_ty (b := "list") (r := true) (by decide +kernel)) (fun z => by cases z) (fun _ => rfl)) (fun z => by cases z)
  | t h => exact kitAny_cons (kit_ty (b := "tuple") (r := true) (by decide +kernel)) (fun z => by cases z) (fun _ => rfl)
end
section
variable {P : Program} {w : World} {K : PySem.W.Frag} {mg : Str → Option Value} {base : Heap}
def spS (K : PySem.W.Frag) : Nat → Sp
  | 0 => fun _ _ _ _ => False
  | n + 1 => fun vs H Q _ => ∃ (x y : V) (d : PyData), vs = [x, y] ∧ Dp K H x d ∧ Dp K H y d ∧ plain d = true ∧ d.depth ≤ n ∧ ∀ H', Same H H' → Q (.bl true) H'
mutual
theorem same_dp {H H' : Hp} (s : Same H H') : ∀ {d : PyData} {v : V}, plain d = true → Dp K H v d → Dp K H' v d
  | .none, _, _, h => by cases h; exact .non
  | .int _, _, _, h => by cases h; exact .int _
  | .list xs, _, t, h => by
    simp only [plain, Bool.and_eq_true] at t
    cases h with
    | lst h1 h2 => exact .lst (s.seq h1) (same_dpAll s t.2 h2)
  | .tuple xs, _, t, h => by
    simp only [plain, Bool.and_eq_true] at t
    cases h with
    | tup h1 h2 => exact .tup ((TupK.of s).sq h1) (same_dpAll s t.2 h2)
  | .bool _, _, _, h => by cases h; exact .bl _
  | .str _, _, _, h => by cases h; exact .str _
  | .dict _, _, t, _ => by simp [plain] at t
theorem same_dpAll {H H' : Hp} (s : Same H H') : ∀ {ds : List PyData} {vs : List V}, plainAll ds = true → DpAll K H vs ds → DpAll K H' vs ds
  | [], _, _, h => by cases h; exact .nil
  | d :: ds, _, t, h => by
    simp only [plainAll, Bool.and_eq_true] at t
    cases h with
    | cons h1 h2 => exact .cons (same_dp s t.1 h1) (same_dpAll s t.2 h2)
end
theorem SeqAs.is {H : Hp} {a : Addr} {xs : List V} {T : String} (h : SeqAs K H a xs T) : T = "list" ∨ T = "tuple" := by
  cases h with
  | l h => exact .inl rfl
  | t h => exact .inr rfl
theorem SeqAs.list {H : Hp} {a : Addr} {xs : List V} {T : String} (h : SeqAs K H a xs T) (e : T = "list") : SqL K H a xs := by
  cases h with
  | l h => exact h
  | t h => exact absurd e (by decide)
theorem SeqAs.tuple {H : Hp} {a : Addr} {xs : List V} {T : String} (h : SeqAs K H a xs T) (e : T = "tuple") : SqT K H a xs := by
  cases h with
  | l h => exact absurd e (by decide)
  | t h => exact h
set_option maxHeartbeats 4000000 in
theorem ok_same {f : Addr} {fd : FuncData} (F : Fun K "_law_same" "_law_same" sSame f fd) (b : Binds K fd ["_law_found", "_law_due_here"] []) (g : mg "_law_same" = some (.ref f))
    (m_tuple : mg "tuple" = none) (m_list : mg "list" = none) (m_isinstance : mg "isinstance" = none) (m_len : mg "len" = none) (m_zip : mg "zip" = none) (m_all : mg "all" = none) (m_bool : mg "bool" = none) (m_int : mg "int" = none) (m_str : mg "str" = none) (m_repr : mg "repr" = none) :
    ∀ n, FnOk P w K mg base CX0 n f fd ["_law_found", "_law_due_here"] (spS K n)
  | 0 => FnOk.none
  | n + 1 => by
    have G := ok_same F b g m_tuple m_list m_isinstance m_len m_zip m_all m_bool m_int m_str m_repr n
    refine F.ok scSame (fun vs H Q E h => ?_) (fun cdv A outer s H vs Q E hr h => ?_)
    · obtain ⟨x, y, d, rfl, _⟩ := h; rfl
    · obtain ⟨x, y, d, rfl, hx, hy, hpl, hdp, q⟩ := h
      refine ⟨_, pss_cons (ps_if (pt_val (pe_callB call_isiT (by rfl) m_isinstance (by decide +kernel) (pa_cons (pv 1) (pa_cons (pe_tup (pa_cons (pe_bltn (v := .ty "tuple") (by rfl) m_tuple (by decide +kernel) rfl) (pa_cons (pe_bltn (v := .ty "list") (by rfl) m_list (by decide +kernel) rfl) pa_nil))) pa_nil))))
          (pss_cons (ps_if (PW.pt (pw_or (pt_cmpR op_ne (pe_callB call_isi (by rfl) m_isinstance (by decide +kernel) (pa_cons (pv 0) (pa_cons (pe_bltn (v := .ty "tuple") (by rfl) m_tuple (by decide +kernel) rfl) pa_nil))) (pe_callB call_isi (by rfl) m_isinstance (by decide +kernel) (pa_cons (pv 1) (pa_cons (pe_bltn (v := .ty "tuple") (by rfl) m_tuple (by decide +kernel) rfl) pa_nil))) (nomark _)) (pw_or1 (pt_not (pt_val (pe_callB call_isiT (by rfl) m_isinstance (by decide +kernel) (pa_cons (pv 0) (pa_cons (pe_tup (pa_cons (pe_bltn (v := .ty "tuple") (by rfl) m_tuple (by decide +kernel) rfl) (pa_cons (pe_bltn (v := .ty "list") (by rfl) m_list (by decide +kernel) rfl) pa_nil))) pa_nil))))))))
            (pss_one (ps_ret (pe_bl))) pss_nil)
          (pss_cons (ps_if (pt_cmpR op_ne (pe_callB call_lenQ (by rfl) m_len PySem.boot_len (pa_cons (pv 0) pa_nil)) (pe_callB call_lenQ (by rfl) m_len PySem.boot_len (pa_cons (pv 1) pa_nil)) (nomark _))
            (pss_one (ps_ret (pe_bl))) pss_nil)
          (pss_one (ps_ret (pe_callB (cr_all rfl) (by rfl) m_all (by decide +kernel) (pa_cons (pe_lc (own := [("_law_one_here", 2), ("_law_other", 3)]) (g := gTup K 2 (gCons (gName 2) (gCons (gName 3) gNil))) (tt := tYes) (te := tCall (spS K n) [] E0 (tCons (tVar 2) (tCons (tVar 3) tNil))) rfl scSame.nd (RZ.pi_zipA (by rfl) m_zip (pa_cons (pv 0) (pa_cons (pv 1) pa_nil))) (blkOk_by (N := ["_law_found", "_law_due_here", "_law_one_here", "_law_other"]) (sc := defScope sSame) (by decide +kernel)) (fun _ _ _ _ _ => pg_tup rfl (pgs_cons (pg_name (i := 2) scSame.nd rfl (.inl rfl)) (pgs_cons (pg_name (i := 3) scSame.nd rfl (.inl rfl)) pgs_nil))) (fun _ _ _ _ _ => pts_nil) (fun _ _ _ _ _ => pe_call G hr (by rfl) g F.kp b .nil pass0 (pa_cons (pv 2) (pa_cons (pv 3) pa_nil)))) pa_nil)))))) pss_nil)
        (pss_cons (ps_if (PW.pt (pw_or (pt_cmp (pc_isN (pv 1))) (pw_or1 (pt_cmp (pc_isN (pv 0))))))
          (pss_one (ps_ret (pe_and (pe_cmp (pc_isN (pv 1))) (pe_one (pe_cmp (pc_isN (pv 0))))))) pss_nil)
        (pss_cons (ps_if (PW.pt (pw_or (pt_val (pe_callB call_isi (by rfl) m_isinstance (by decide +kernel) (pa_cons (pv 1) (pa_cons (pe_bltn (v := .ty "bool") (by rfl) m_bool (by decide +kernel) rfl) pa_nil)))) (pw_or1 (pt_val (pe_callB call_isi (by rfl) m_isinstance (by decide +kernel) (pa_cons (pv 0) (pa_cons (pe_bltn (v := .ty "bool") (by rfl) m_bool (by decide +kernel) rfl) pa_nil)))))))
          (pss_one (ps_ret (pe_and (pe_callB call_isi (by rfl) m_isinstance (by decide +kernel) (pa_cons (pv 1) (pa_cons (pe_bltn (v := .ty "bool") (by rfl) m_bool (by decide +kernel) rfl) pa_nil))) (pe_and (pe_callB call_isi (by rfl) m_isinstance (by decide +kernel) (pa_cons (pv 0) (pa_cons (pe_bltn (v := .ty "bool") (by rfl) m_bool (by decide +kernel) rfl) pa_nil))) (pe_one (pe_cmpR op_eq (pv 0) (pv 1) (nomark _))))))) pss_nil)
        (pss_cons (ps_if (pt_val (pe_callB call_isi (by rfl) m_isinstance (by decide +kernel) (pa_cons (pv 1) (pa_cons (pe_bltn (v := .ty "int") (by rfl) m_int (by decide +kernel) rfl) pa_nil))))
          (pss_one (ps_ret (pe_and (pe_callB call_isi (by rfl) m_isinstance (by decide +kernel) (pa_cons (pv 0) (pa_cons (pe_bltn (v := .ty "int") (by rfl) m_int (by decide +kernel) rfl) pa_nil))) (pe_one (pe_cmpR op_eq (pv 0) (pv 1) (nomark _)))))) pss_nil)
        (pss_cons (ps_if (pt_val (pe_callB call_isi (by rfl) m_isinstance (by decide +kernel) (pa_cons (pv 1) (pa_cons (pe_bltn (v := .ty "str") (by rfl) m_str (by decide +kernel) rfl) pa_nil))))
          (pss_one (ps_ret (pe_and (pe_callB call_isi (by rfl) m_isinstance (by decide +kernel) (pa_cons (pv 0) (pa_cons (pe_bltn (v := .ty "str") (by rfl) m_str (by decide +kernel) rfl) pa_nil))) (pe_one (pe_cmpR op_eq (pv 0) (pv 1) (nomark _)))))) pss_nil)
        (pss_one ps_never))))), ?_⟩
      refine ⟨y, rfl, (show (2 : Nat) ≤ sizeLine by decide), fun tp ntp => ?_⟩
      have s1 : Same H (upd H tp (.tup [.ty "tuple", .ty "list"])) := sameNew ntp
      have cls : (∃ (T : String) (a b' : Addr) (xs ys : List V) (ds : List PyData), x = .ref a ∧ y = .ref b' ∧ SeqAs K H a xs T ∧ SeqAs K H b' ys T ∧ DpAll K H xs ds ∧ DpAll K H ys ds ∧ ds.length ≤ 1000 ∧ plainAll ds = true ∧ PyData.depthAll ds + 1 ≤ n) ∨
          (x = .non ∧ y = .non) ∨ (∃ i, x = .int i ∧ y = .int i) ∨ (∃ b, x = .bl b ∧ y = .bl b) ∨ ∃ z, x = .str z ∧ y = .str z := by
        cases d with
        | none => cases hx; cases hy; exact .inr (.inl ⟨rfl, rfl⟩)
        | int i => cases hx; cases hy; exact .inr (.inr (.inl ⟨i, rfl, rfl⟩))
        | list ds =>
          simp only [plain, Bool.and_eq_true, decide_eq_true_eq] at hpl
          simp only [PyData.depth] at hdp
          cases hx with
          | lst h1 h2 => cases hy with
            | lst h3 h4 => exact .inl ⟨"list", _, _, _, _, ds, rfl, rfl, .l h1, .l h3, h2, h4, hpl.1, hpl.2, hdp⟩
        | tuple ds =>
          simp only [plain, Bool.and_eq_true, decide_eq_true_eq] at hpl
          simp only [PyData.depth] at hdp
          cases hx with
          | tup h1 h2 => cases hy with
            | tup h3 h4 => exact .inl ⟨"tuple", _, _, _, _, ds, rfl, rfl, .t h1, .t h3, h2, h4, hpl.1, hpl.2, hdp⟩
        | bool bb => cases hx; cases hy; exact .inr (.inr (.inr (.inl ⟨bb, rfl, rfl⟩)))
        | str z => cases hx; cases hy; exact .inr (.inr (.inr (.inr ⟨z, rfl, rfl⟩)))
        | dict _ => simp [plain] at hpl
      rcases cls with ⟨T, a, b', xs, ys, ds, rfl, rfl, hX, hY, dx, dy, hds, hpa, hda⟩ | ⟨rfl, rfl⟩ | ⟨i, rfl, rfl⟩ | ⟨bb, rfl, rfl⟩ | ⟨z, rfl, rfl⟩
      · have hX1 := hX.same s1
        have hY1 := hY.same s1
        refine ⟨.ref b', tp, _, _, _, true, rfl, upd_same, .cons (.ty _) (.cons (.ty _) .nil), hY1.ty, hY1.kits, true, rfl, iteT ?_⟩
        refine ⟨.ref a, rfl, .ref a, .ty "tuple", _, _, _, rfl, .ty _, hX1.ty, hX1.kit "tuple" (.inr rfl), .ref b', rfl, .ref b', .ty "tuple", _, _, _, rfl, .ty _, hY1.ty, hY1.kit "tuple" (.inr rfl), rfl, _, rfl, iteNS rfl ?_⟩
        refine ⟨.ref a, rfl, (show (2 : Nat) ≤ sizeLine by decide), fun tq ntq => ?_⟩
        have s12 := s1.trans (sameNew (o := .tup [.ty "tuple", .ty "list"]) ntq)
        have hX2 := hX.same s12
        have hY2 := hY.same s12
        refine ⟨.ref a, tq, _, _, _, true, rfl, upd_same, .cons (.ty _) (.cons (.ty _) .nil), hX2.ty, hX2.kits, true, rfl, iteF ?_⟩
        have lx := DpAll.len dx
        have ly := DpAll.len dy
        refine ⟨.ref a, rfl, a, xs, rfl, hX2.or, .ref b', rfl, b', ys, rfl, hY2.or, rfl, _, rfl, iteNS (by rw [lx, ly]) ?_⟩
        have nDH : ∀ D, (upd (upd H tp (.tup [.ty "tuple", .ty "list"])) tq (.tup [.ty "tuple", .ty "list"])) D = none → H D = none := fun D nD => by
          cases e : H D with
          | none => rfl
          | some o => have := s12 _ _ e; rw [nD] at this; cases this
        refine ⟨.ref a, rfl, .ref b', rfl, ?_⟩
        have hXY : (SqL K H a xs ∧ SqL K H b' ys) ∨ (SqT K H a xs ∧ SqT K H b' ys) := by
          rcases hX.is with e | e
          · exact .inl ⟨hX.list e, hY.list e⟩
          · exact .inr ⟨hX.tuple e, hY.tuple e⟩
        rcases hXY with ⟨hXL, hYL⟩ | ⟨hXL, hYL⟩
        · have h1 := s12.seq hXL
          have h2 := s12.seq hYL
          refine ⟨a, b', xs, ys, rfl, .inl ⟨h1, h2, fun D nD => lc_it (walk_zipL (K := K) (a := a) (b := b') (xs := xs) (ys := ys) rfl)
            (fun j H2 => Same H H2 ∧ H2 D = some (.lst ((List.replicate j true).map V.bl))) ⟨s12.trans (sameNew nD), upd_same⟩ (fun j H2 _ h => ⟨h.1.seq hXL, h.1.seq hYL⟩) ?_ ?_⟩⟩
          · rintro j v H2 H3 hlt ⟨s2, e2⟩ ⟨T', x0, y0, rfl, nT', rfl, ex, ey⟩
            have hj2 : j < xs.length := by omega
            have ex : xs[j]? = some x0 := ex
            have ey : ys[j]? = some y0 := ey
            have sT := sameNew (o := .tup [x0, y0]) nT'
            obtain ⟨d1, hd1, hx1⟩ := DpAll.at dx ex
            obtain ⟨d2, hd2, hy1⟩ := DpAll.at dy ey
            rw [hd1] at hd2
            cases hd2
            have hpd := plainAll_at hpa hd1
            have hdd := depthAll_at hd1
            obtain ⟨n', rfl⟩ : ∃ n', n = n' + 1 := ⟨n - 1, by omega⟩
            have s2T := s2.trans sT
            refine ⟨T', _, rfl, SqT.of upd_same, rfl, _, _, rfl, _, _, rfl, rfl, rfl, x0, rfl, y0, rfl, x0, y0, d1, rfl, same_dp s2T hpd hx1, same_dp s2T hpd hy1, hpd, by omega, fun H4 s4 => ?_⟩
            have e4 := (sT.trans s4) _ _ e2
            refine ⟨_, e4, ?_, samePut (s2T.trans s4) (nDH D nD), ?_⟩
            · rw [List.length_map, List.length_replicate]; exact small (by omega)
            · rw [upd_same, List.replicate_succ']; simp
          · rintro H2 ⟨s2, e2⟩
            refine ⟨D, _, rfl, SqL.of e2, ?_⟩
            have : (List.replicate (min xs.length ys.length) true).all id = true := by rw [List.all_eq_true]; intro x hx; exact (List.mem_replicate.mp hx).2
            rw [this]
            exact q _ s2
        · have h1 := (TupK.of s12).sq hXL
          have h2 := (TupK.of s12).sq hYL
          refine ⟨a, b', xs, ys, rfl, .inr ⟨h1, h2, fun D nD => lc_it (walk_zipT (K := K) (a := a) (b := b') (xs := xs) (ys := ys) rfl)
            (fun j H2 => Same H H2 ∧ H2 D = some (.lst ((List.replicate j true).map V.bl))) ⟨s12.trans (sameNew nD), upd_same⟩ (fun j H2 _ h => ⟨(TupK.of h.1).sq hXL, (TupK.of h.1).sq hYL⟩) ?_ ?_⟩⟩
          · rintro j v H2 H3 hlt ⟨s2, e2⟩ ⟨T', x0, y0, rfl, nT', rfl, ex, ey⟩
            have hj2 : j < xs.length := by omega
            have ex : xs[j]? = some x0 := ex
            have ey : ys[j]? = some y0 := ey
            have sT := sameNew (o := .tup [x0, y0]) nT'
            obtain ⟨d1, hd1, hx1⟩ := DpAll.at dx ex
            obtain ⟨d2, hd2, hy1⟩ := DpAll.at dy ey
            rw [hd1] at hd2
            cases hd2
            have hpd := plainAll_at hpa hd1
            have hdd := depthAll_at hd1
            obtain ⟨n', rfl⟩ : ∃ n', n = n' + 1 := ⟨n - 1, by omega⟩
            have s2T := s2.trans sT
            refine ⟨T', _, rfl, SqT.of upd_same, rfl, _, _, rfl, _, _, rfl, rfl, rfl, x0, rfl, y0, rfl, x0, y0, d1, rfl, same_dp s2T hpd hx1, same_dp s2T hpd hy1, hpd, by omega, fun H4 s4 => ?_⟩
            have e4 := (sT.trans s4) _ _ e2
            refine ⟨_, e4, ?_, samePut (s2T.trans s4) (nDH D nD), ?_⟩
            · rw [List.length_map, List.length_replicate]; exact small (by omega)
            · rw [upd_same, List.replicate_succ']; simp
          · rintro H2 ⟨s2, e2⟩
            refine ⟨D, _, rfl, SqL.of e2, ?_⟩
            have : (List.replicate (min xs.length ys.length) true).all id = true := by rw [List.all_eq_true]; intro x hx; exact (List.mem_replicate.mp hx).2
            rw [this]
            exact q _ s2
      · have kn : PySem.W.kitAny K (.type "NoneType") [.type "tuple", .type "list"] = some false :=
          kitAny_cons (kit_ty (b := "tuple") (r := false) (by decide +kernel)) (fun _ => kitAny_cons (kit_ty (b := "list") (r := false) (by decide +kernel)) (fun _ => kitAny_nil) (fun z => by cases z)) (fun z => by cases z)
        refine ⟨.non, tp, _, _, _, false, rfl, upd_same, .cons (.ty _) (.cons (.ty _) .nil), .base .non, kn, false, rfl, iteF ?_⟩
        exact ⟨.non, rfl, _, rfl, iteT ⟨.non, rfl, _, rfl, iteT ⟨.non, rfl, q _ s1⟩⟩⟩
      · have kn : PySem.W.kitAny K (.type "int") [.type "tuple", .type "list"] = some false :=
          kitAny_cons (kit_ty (b := "tuple") (r := false) (by decide +kernel)) (fun _ => kitAny_cons (kit_ty (b := "list") (r := false) (by decide +kernel)) (fun _ => kitAny_nil) (fun z => by cases z)) (fun z => by cases z)
        refine ⟨(.int i), tp, _, _, _, false, rfl, upd_same, .cons (.ty _) (.cons (.ty _) .nil), .base (.int i), kn, false, rfl, iteF ?_⟩
        refine ⟨(.int i), rfl, _, rfl, iteF ⟨(.int i), rfl, _, rfl, iteF ?_⟩⟩
        refine ⟨(.int i), rfl, (.int i), .ty "bool", _, _, false, rfl, .ty _, .base (.int i), kit_ty (by decide +kernel), false, rfl, iteF ⟨(.int i), rfl, (.int i), .ty "bool", _, _, false, rfl, .ty _, .base (.int i), kit_ty (by decide +kernel), false, rfl, iteF ?_⟩⟩
        refine ⟨(.int i), rfl, (.int i), .ty "int", _, _, true, rfl, .ty _, .base (.int i), kit_ty (by decide +kernel), true, rfl, iteT ⟨(.int i), rfl, (.int i), .ty "int", _, _, true, rfl, .ty _, .base (.int i), kit_ty (by decide +kernel), _, rfl, iteT ?_⟩⟩
        refine ⟨(.int i), rfl, (.int i), rfl, rfl, ?_⟩
        have := q _ s1
        rw [decide_eq_true rfl]
        exact this
      · have kn : PySem.W.kitAny K (.type "bool") [.type "tuple", .type "list"] = some false :=
          kitAny_cons (kit_ty (b := "tuple") (r := false) (by decide +kernel)) (fun _ => kitAny_cons (kit_ty (b := "list") (r := false) (by decide +kernel)) (fun _ => kitAny_nil) (fun z => by cases z)) (fun z => by cases z)
        refine ⟨(.bl bb), tp, _, _, _, false, rfl, upd_same, .cons (.ty _) (.cons (.ty _) .nil), .base (.bl bb), kn, false, rfl, iteF ?_⟩
        refine ⟨(.bl bb), rfl, _, rfl, iteF ⟨(.bl bb), rfl, _, rfl, iteF ?_⟩⟩
        refine ⟨(.bl bb), rfl, (.bl bb), .ty "bool", _, _, true, rfl, .ty _, .base (.bl bb), kit_ty (by decide +kernel), true, rfl, iteT ?_⟩
        refine ⟨(.bl bb), rfl, (.bl bb), .ty "bool", _, _, true, rfl, .ty _, .base (.bl bb), kit_ty (by decide +kernel), _, rfl, iteT ⟨(.bl bb), rfl, (.bl bb), .ty "bool", _, _, true, rfl, .ty _, .base (.bl bb), kit_ty (by decide +kernel), _, rfl, iteT ?_⟩⟩
        refine ⟨(.bl bb), rfl, (.bl bb), rfl, rfl, ?_⟩
        have := q _ s1
        rw [decide_eq_true rfl]
        exact this
      · have kn : PySem.W.kitAny K (.type "str") [.type "tuple", .type "list"] = some false :=
          kitAny_cons (kit_ty (b := "tuple") (r := false) (by decide +kernel)) (fun _ => kitAny_cons (kit_ty (b := "list") (r := false) (by decide +kernel)) (fun _ => kitAny_nil) (fun z => by cases z)) (fun z => by cases z)
        refine ⟨(.str z), tp, _, _, _, false, rfl, upd_same, .cons (.ty _) (.cons (.ty _) .nil), .base (.str z), kn, false, rfl, iteF ?_⟩
        refine ⟨(.str z), rfl, _, rfl, iteF ⟨(.str z), rfl, _, rfl, iteF ?_⟩⟩
        refine ⟨(.str z), rfl, (.str z), .ty "bool", _, _, false, rfl, .ty _, .base (.str z), kit_ty (by decide +kernel), false, rfl, iteF ⟨(.str z), rfl, (.str z), .ty "bool", _, _, false, rfl, .ty _, .base (.str z), kit_ty (by decide +kernel), false, rfl, iteF ?_⟩⟩
        refine ⟨(.str z), rfl, (.str z), .ty "int", _, _, false, rfl, .ty _, .base (.str z), kit_ty (by decide +kernel), false, rfl, iteF ?_⟩
        refine ⟨(.str z), rfl, (.str z), .ty "str", _, _, true, rfl, .ty _, .base (.str z), kit_ty (by decide +kernel), true, rfl, iteT ⟨(.str z), rfl, (.str z), .ty "str", _, _, true, rfl, .ty _, .base (.str z), kit_ty (by decide +kernel), _, rfl, iteT ?_⟩⟩
        refine ⟨(.str z), rfl, (.str z), rfl, rfl, ?_⟩
        have := q _ s1
        rw [decide_eq_true rfl]
        exact this
end
end Pv

namespace Pv
open PySem PySem.Spec PyProof.Rows L2
abbrev sLi : Stmt := topS 35
theorem scLi : FnScope ["_law_stream_here", "_law_posts", "_law_left", "_law_length", "_law_k"] ["_law_stream_here", "_law_posts"] (defScope sLi) := ⟨rfl, rfl, rfl, by decide +kernel, rfl, by decide +kernel, by decide +kernel⟩

theorem lay_ints : ∀ ns : List Int, PyData.canLayAll0 (ns.map PyData.int) = true
  | [] => by simp [PyData.canLayAll0]
  | n :: ns => by simp [PyData.canLayAll0, PyData.canLay0, lay_ints ns]
theorem dep_ints : ∀ ns : List Int, PyData.depthAll (ns.map PyData.int) = 0
  | [] => by simp [PyData.depthAll]
  | n :: ns => by simp [PyData.depthAll, PyData.depth, dep_ints ns]
theorem shaped_ints (ns : List Int) : SeqAt.shaped (.list (ns.map PyData.int)) = true := by
  show (PyData.canLay0 (.list (ns.map PyData.int)) && decide (PyData.depth (.list (ns.map PyData.int)) ≤ 64)) = true
  rw [Bool.and_eq_true]
  refine ⟨by simp only [PyData.canLay0]; exact lay_ints ns, decide_eq_true ?_⟩
  simp only [PyData.depth, dep_ints]; omega
theorem perm_erase : ∀ (l : List Int) (k : Nat) (h : k < l.length), (l[k] :: l.eraseIdx k).Perm l
  | [], _, h => by simp at h
  | a :: l, 0, _ => by simp
  | a :: l, k + 1, h => by
    have ih := perm_erase l k (by simpa using h)
    simp only [List.getElem_cons_succ, List.eraseIdx_cons_succ]
    exact (List.Perm.swap _ _ _).trans (List.Perm.cons _ ih)
theorem nodup_step {ms l : List Int} {k : Nat} (h : k < l.length) (hn : (ms ++ l).Nodup) : ((ms ++ [l[k]]) ++ l.eraseIdx k).Nodup := by
  rw [List.append_assoc]
  exact (List.Perm.append_left ms (perm_erase l k h)).symm.nodup hn
theorem upTo_nodup (n : Nat) : (upTo n).Nodup := by
  unfold upTo
  show List.Pairwise _ _
  rw [List.pairwise_map]
  exact List.Pairwise.imp (fun h hab => h (Int.ofNat.inj hab)) (List.nodup_range (n := n))
theorem shaped_dI (ns : List Int) : SeqAt.shaped (dI ns) = true := by
  show (PyData.canLay0 (dI ns) && decide (PyData.depth (dI ns) ≤ 64)) = true
  rw [Bool.and_eq_true]
  refine ⟨by simp only [dI, PyData.canLay0]; exact lay_ints ns, decide_eq_true ?_⟩
  simp only [dI, PyData.depth, dep_ints]; omega
theorem eqv_ints : ∀ a b : List Int, PyData.eqv (dI a) (dI b) = decide (a = b)
  | [], [] => by simp [dI, PyData.eqv, PyData.eqvAll]
  | [], y :: b => by simp [dI, PyData.eqv, PyData.eqvAll]
  | x :: a, [] => by simp [dI, PyData.eqv, PyData.eqvAll]
  | x :: a, y :: b => by
    have ih := eqv_ints a b
    simp only [dI, PyData.eqv] at ih
    simp only [dI, PyData.eqv, List.map_cons, PyData.eqvAll, ih]
    by_cases h1 : x = y
    · subst h1; simp
    · simp [h1]
section
variable {P : Program} {w : World} {K : PySem.W.Frag} {mg : Str → Option Value} {base : Heap}
def spLi (K : PySem.W.Frag) : Sp := fun vs H Q _ => ∃ (st c r : Addr) (t n : Nat), vs = [.ref st, .int n] ∧ DS H st c r t ∧ t + 20 ≤ 1000000 ∧ 1 ≤ n ∧ n ≤ 6 ∧
  ∀ (H' : Hp) (p : Addr) (t' : Nat) (ws : List Int), DS H' st c r t' → t' ≤ t + 10 → Ext st r H H' → H' p = some (.tup (ws.map V.int)) → ws.length ≤ n → (∀ x ∈ ws, 0 ≤ x ∧ x < (n : Int)) → ws.Nodup → Q (.ref p) H'
set_option maxHeartbeats 2000000 in
theorem ok_Li {f fDr fOn : Addr} {fd fdDr fdOn : FuncData} (F : Fun K "_law_list" "_law_list" sLi f fd)
    (FDr : Fun K "_law_draw" "_law_draw" sDraw fDr fdDr) (bDr : Binds K fdDr ["_law_stream_here", "_law_bound"] []) (gDr : mg "_law_draw" = some (.ref fDr)) (GDr : FnOk P w K mg base CX0 1 fDr fdDr ["_law_stream_here", "_law_bound"] spDraw)
    (FOn : Fun K "_law_one" "_law_one" sOne fOn fdOn) (bOn : Binds K fdOn ["_law_stream_here", "_law_items"] []) (gOn : mg "_law_one" = some (.ref fOn)) (GOn : FnOk P w K mg base CX0 2 fOn fdOn ["_law_stream_here", "_law_items"] (spOne K))
    (m_list : mg "list" = none) (m_range : mg "range" = none) (m_min : mg "min" = none) (m_len : mg "len" = none) (m_tuple : mg "tuple" = none) :
    FnOk P w K mg base CX0 3 f fd ["_law_stream_here", "_law_posts"] (spLi K) := by
  refine F.ok scLi (fun vs H Q E h => ?_) (fun cdv A outer s H vs Q E hr h => ?_)
  · obtain ⟨st, c, r, t, n, rfl, _⟩ := h; rfl
  · obtain ⟨st, c, r, t, n, rfl, hd, ht, hn1, hn6, q⟩ := h
    refine ⟨_, pss_cons (ps_set (i := 2) scLi.nd rfl (.inr rfl) (pe_listRg rfl (by rfl) m_list (prg_1 (by rfl) m_range (pv 1))))
      (pss_cons (ps_set (i := 3) scLi.nd rfl (.inl rfl) (pe_call GOn (hr.mono (by omega)) (by rfl) gOn FOn.kp bOn .nil pass0 (pa_cons (pv 0) (pa_cons (pe_lst (pa_cons (pv 1) (pa_cons (pe_call GDr (hr.mono (by omega)) (by rfl) gDr FDr.kp bDr .nil pass0 (pa_cons (pv 0) (pa_cons (pe_op op_add (pv 1) (pe_int)) pa_nil))) (pa_cons (pe_callB (call_min2 rfl) (by rfl) m_min (by decide +kernel) (pa_cons (pe_int) (pa_cons (pv 1) pa_nil))) pa_nil)))) pa_nil))))
      (pss_one (ps_ret (pe_callTy call_tupQ (by rfl) m_tuple (by decide +kernel) (pa_cons (pe_lc (own := [("_law_k", 4)]) (g := gName 4) (tt := tYes) (te := tBM K "list" rPopAt (tVar 2) (tCons (tCall spDraw [] E0 (tCons (tVar 0) (tCons (tCB (rLenQ K) (tCons (tVar 2) tNil)) tNil))) tNil)) rfl scLi.nd (pi_range1 (by rfl) m_range (pa_cons (pv 3) pa_nil)) (blkOk_by (N := ["_law_stream_here", "_law_posts", "_law_left", "_law_length", "_law_k"]) (sc := defScope sLi) (by decide +kernel)) (fun _ _ _ _ _ => pg_name (i := 4) scLi.nd rfl (.inl rfl)) (fun _ _ _ _ _ => pts_nil) (fun _ _ _ _ _ => pe_bm PySem.F.plainAttrs_list PySem.F.slot_list_pop PySem.F.type_list_pop mt_popAt (pv 2) (pa_cons (pe_call GDr (hr.mono (by omega)) (by rfl) gDr FDr.kp bDr .nil pass0 (pa_cons (pv 0) (pa_cons (pe_callB call_lenQ (by rfl) m_len PySem.boot_len (pa_cons (pv 2) pa_nil)) pa_nil))) pa_nil))) pa_nil))))), ?_⟩
    refine ⟨.int n, rfl, n, rfl, RgOk.of_le (by omega) (by omega) (by omega) (by omega), fun Nm nNm => ?_⟩
    have oNm := hd.off nNm
    have d5 := hd.new nNm (o := .lst (rgV 0 n))
    have eN5 : (upd H Nm (.lst (rgV 0 n))) Nm = some (.lst ((upTo n).map V.int)) := by rw [upd_same, rgV_upTo]
    have x5 : Ext st r H (upd H Nm (.lst (rgV 0 n))) := Ext.of (sameNew nNm)
    refine ⟨.ref st, rfl, .int n, rfl, .ref st, rfl, .int n, rfl, _, _, rfl, rfl, st, c, r, t, _, rfl, d5, by omega, by omega, by omega, fun H6 d6 h60 h61 D6 X6 => ?_⟩
    refine ⟨.int n, rfl, _, _, rfl, (show (3 : Nat) ≤ sizeLine by decide), fun L1 n1 => ?_⟩
    obtain ⟨o11, o12, o13⟩ := D6.off n1
    refine ⟨st, c, r, L1, t + 1, _, rfl, D6.new n1, by omega, upd_same, o11, o13, by simp, by simp, fun H7 j1 vl hvl D7 X7 => ?_⟩
    have xx : Ext st r (upd H Nm (.lst (rgV 0 n))) H7 := (X6.trans (Ext.of (sameNew n1))).trans X7
    obtain ⟨m, rfl, hm⟩ : ∃ m : Nat, vl = .int m ∧ m ≤ n := by
      have hmem := List.mem_of_getElem? hvl
      simp only [List.mem_cons, List.not_mem_nil, or_false] at hmem
      rcases hmem with rfl | rfl | rfl
      · exact ⟨n, rfl, Nat.le_refl _⟩
      · exact ⟨d6.toNat, by rw [show ((d6.toNat : Nat) : Int) = d6 by omega], by omega⟩
      · split
        · exact ⟨n, rfl, Nat.le_refl _⟩
        · exact ⟨2, rfl, by omega⟩
    have eN7 := xx _ _ eN5 oNm.1 oNm.2.2
    have x7 := x5.trans xx
    have D7' : DS H7 st c r (t + 2) := D7
    clear D7 hvl xx X7 X6 D6
    refine ⟨.int m, rfl, m, rfl, by omega, by omega, fun Ch nCh => lc_it (walk_range (lo := 0) (n := (m : Int).toNat))
      (fun j H8 => ∃ (ns ls : List Int), DS H8 st c r (t + 2 + j) ∧ Ext st r H H8 ∧ H8 Nm = some (.lst (ns.map V.int)) ∧ ns.length + j = n ∧ (∀ x ∈ ns, 0 ≤ x ∧ x < (n : Int)) ∧
        H8 Ch = some (.lst (ls.map V.int)) ∧ ls.length = j ∧ (∀ x ∈ ls, 0 ≤ x ∧ x < (n : Int)) ∧ (ls ++ ns).Nodup)
      ⟨upTo n, [], D7'.new nCh, x7.trans (Ext.of (sameNew nCh)), upNew nCh eN7, upTo_len n, fun x h => upTo_mem h, upd_same, rfl, (fun x h => by simp at h), by simpa using upTo_nodup n⟩ (fun _ _ _ _ => trivial) ?_ ?_⟩
    · rintro j v H8 H9 hltj ⟨ns, ls, d8, x8, eN8, lN8, bN8, eC8, lC8, bC8, hnd⟩ ⟨rfl, rfl⟩
      have hjn : j < m := by omega
      have oCh := D7'.off nCh
      have nNC : Nm ≠ Ch := ne_of_none eN7 nCh
      have fCh : H Ch = none := x7.nil D7' nCh
      refine ⟨rfl, .ref Nm, rfl, .inl ⟨rfl, _, SqL.of eN8⟩, .ref st, rfl, .ref Nm, rfl, Nm, _, rfl, .inl (SqL.of eN8), st, c, r, t + 2 + j, _, rfl, d8, by omega, by rw [List.length_map]; omega, by rw [List.length_map]; omega, fun H10 d9 h90 h91 D9 X9 => ?_⟩
      rw [List.length_map] at h91
      have eN9 := X9 _ _ eN8 oNm.1 oNm.2.2
      have eC9 := X9 _ _ eC8 oCh.1 oCh.2.2
      have hk : d9.toNat < ns.length := by omega
      have eCz : (upd H10 Nm (.lst ((ns.map V.int).eraseIdx d9.toNat))) Ch = some (.lst (ls.map V.int)) := by rw [upd_ne nNC.symm]; exact eC9
      refine ⟨Nm, _, d9, d9.toNat, .int ns[d9.toNat], rfl, rfl, eN9, by omega, by omega, seqIndex_of h90 (by rw [List.length_map]; omega), by rw [List.getElem?_map, List.getElem?_eq_getElem hk]; rfl, _, eCz, by rw [List.length_map]; exact small (by omega),
        ns.eraseIdx d9.toNat, ls ++ [ns[d9.toNat]], (D9.put oNm.1 oNm.2.1 oNm.2.2).put oCh.1 oCh.2.1 oCh.2.2, ExtPut (ExtPut (x8.trans X9) nNm) fCh, ?_, ?_, ?_, ?_, by simp [lC8], ?_, nodup_step hk hnd⟩
      · rw [upd_ne nNC, upd_same, erase_map]
      · rw [List.length_eraseIdx_of_lt hk]; omega
      · exact fun x hx => bN8 x (List.mem_of_mem_eraseIdx hx)
      · rw [upd_same, List.map_append]; rfl
      · intro x hx
        rw [List.mem_append] at hx
        rcases hx with h | h
        · exact bC8 x h
        · simp at h; subst h; exact bN8 _ (List.getElem_mem hk)
    · rintro H8 ⟨ns, ls, d8, x8, eN8, lN8, bN8, eC8, lC8, bC8, hnd⟩
      have h7 : (m : Int).toNat = m := by omega
      rw [h7] at d8 lN8 lC8
      refine ⟨Ch, _, rfl, .inl ⟨SqL.of eC8, fun T nT => ?_⟩⟩
      exact q _ T _ ls (d8.new nT) (by omega) (x8.trans (Ext.of (sameNew nT))) upd_same (by omega) bC8 (List.nodup_append.mp hnd).1
def spAm (K : PySem.W.Frag) : Sp := fun vs H Q _ => ∃ (st c r : Addr) (t : Nat), vs = [.ref st] ∧ DS H st c r t ∧ t + 10 ≤ 1000000 ∧
  ∀ (H' : Hp) (d : Int) (t' : Nat), 1 ≤ d → d ≤ 10 ^ 12 → DS H' st c r t' → t' ≤ t + 5 → Ext st r H H' → Q (.int d) H'
end
end Pv

namespace Pv
open PySem PySem.Spec PyProof.Rows L2
abbrev sSl : Stmt := topS 36
theorem scSl : FnScope ["_law_stream_here", "_law_posts", "_law_groups", "_law_k", "_law_post"] ["_law_stream_here"] (defScope sSl) := ⟨rfl, rfl, rfl, by decide +kernel, rfl, by decide +kernel, by decide +kernel⟩

section
variable {P : Program} {w : World} {K : PySem.W.Frag} {mg : Str → Option Value} {base : Heap}
theorem first_eq {H : Hp} {a : Addr} {ps : List Int} (hP : SqT K H a (ps.map V.int)) {Q : VK} (h : ∀ (H' : Hp) (b : Addr), Same H H' → SqT K H' b ((ps.take 1).map V.int) → Q (.ref b) H') : rSlA K (.ref a) none (some 1) H Q := by
  have hcut : cutV (ps.map V.int) none (some 1) = (ps.take 1).map V.int := by rw [List.map_take]; exact cut_to _ 1
  refine ⟨a, _, rfl, hP, fun hw => ?_, fun _ p np => ?_⟩
  · refine h H a (Same.refl _) ?_
    have e : (ps.take 1).map V.int = ps.map V.int := by
      rw [← hcut]
      unfold cutV
      rw [hw.1, hw.2, List.drop_zero, Nat.sub_zero, List.take_length]
    rw [e]; exact hP
  · refine h _ p (sameNew np) (SqT.of ?_)
    rw [upd_same, hcut]
def spSl (K : PySem.W.Frag) : Sp := fun vs H Q _ => ∃ (st c r : Addr) (t : Nat), vs = [.ref st] ∧ DS H st c r t ∧ t + 500 ≤ 1000000 ∧
  ∀ (H' : Hp) (p : Addr) (t' : Nat) (cs : List Int) (gs : List Gp), DS H' st c r t' → t' ≤ t + 100 → Ext st r H H' → Dp K H' (.ref p) (dInst cs gs) → InsOk cs gs → (∀ g ∈ gs, g.1.Nodup) → (cs.length ≤ 3 ∧ (∀ x ∈ cs, x ≤ 3) ∧ gs.length ≤ 3 ∧ ∀ g ∈ gs, g.2 ≤ 2) → Q (.ref p) H'
set_option maxHeartbeats 4000000 in
theorem ok_Sl {f fDr fLi : Addr} {fd fdDr fdLi : FuncData} (F : Fun K "_law_small" "_law_small" sSl f fd)
    (FDr : Fun K "_law_draw" "_law_draw" sDraw fDr fdDr) (bDr : Binds K fdDr ["_law_stream_here", "_law_bound"] []) (gDr : mg "_law_draw" = some (.ref fDr)) (GDr : FnOk P w K mg base CX0 1 fDr fdDr ["_law_stream_here", "_law_bound"] spDraw)
    (FLi : Fun K "_law_list" "_law_list" sLi fLi fdLi) (bLi : Binds K fdLi ["_law_stream_here", "_law_posts"] []) (gLi : mg "_law_list" = some (.ref fLi)) (GLi : FnOk P w K mg base CX0 3 fLi fdLi ["_law_stream_here", "_law_posts"] (spLi K))
    (m_range : mg "range" = none) (m_tuple : mg "tuple" = none) :
    FnOk P w K mg base CX0 4 f fd ["_law_stream_here"] (spSl K) := by
  refine F.ok scSl (fun vs H Q E h => ?_) (fun cdv A outer s H vs Q E hr h => ?_)
  · obtain ⟨st, c, r, t, rfl, _⟩ := h; rfl
  · obtain ⟨st, c, r, t, rfl, hd, ht, q⟩ := h
    refine ⟨_, pss_cons (ps_set (i := 1) scSl.nd rfl (.inl rfl) (pe_op op_add (pe_int) (pe_call GDr (hr.mono (by omega)) (by rfl) gDr FDr.kp bDr .nil pass0 (pa_cons (pv 0) (pa_cons (pe_int) pa_nil)))))
      (pss_cons (ps_set (i := 2) scSl.nd rfl (.inl rfl) (pe_lst (pa_nil)))
      (pss_cons (ps_for PassesOwn.never rfl (pi_range1 (by rfl) m_range (pa_cons (pe_op op_add (pe_int) (pe_call GDr (hr.mono (by omega)) (by rfl) gDr FDr.kp bDr .nil pass0 (pa_cons (pv 0) (pa_cons (pe_int) pa_nil)))) pa_nil)) (pg_name (i := 3) scSl.nd rfl (.inl rfl))
        (pss_one (ps_expr (pe_bm PySem.F.plainAttrs_list PySem.F.slot_list_append PySem.F.type_list_append mt_append (pv 2) (pa_cons (pe_tup (pa_cons (pe_call GLi (hr.mono (by omega)) (by rfl) gLi FLi.kp bLi .nil pass0 (pa_cons (pv 0) (pa_cons (pv 1) pa_nil))) (pa_cons (pe_op op_add (pe_int) (pe_call GDr (hr.mono (by omega)) (by rfl) gDr FDr.kp bDr .nil pass0 (pa_cons (pv 0) (pa_cons (pe_int) pa_nil)))) pa_nil))) pa_nil)))))
      (pss_one (ps_ret (pe_tup (pa_cons (pe_callTy call_tupQ (by rfl) m_tuple (by decide +kernel) (pa_cons (pe_lc (own := [("_law_post", 4)]) (g := gName 4) (tt := tYes) (te := tOp (rI0 fun i j => .int (i + j)) (tC (.int 1)) (tCall spDraw [] E0 (tCons (tVar 0) (tCons (tC (.int 3)) tNil)))) rfl scSl.nd (pi_range1 (by rfl) m_range (pa_cons (pv 1) pa_nil)) (blkOk_by (N := ["_law_stream_here", "_law_posts", "_law_groups", "_law_k", "_law_post"]) (sc := defScope sSl) (by decide +kernel)) (fun _ _ _ _ _ => pg_name (i := 4) scSl.nd rfl (.inl rfl)) (fun _ _ _ _ _ => pts_nil) (fun _ _ _ _ _ => pe_op op_add (pe_int) (pe_call GDr (hr.mono (by omega)) (by rfl) gDr FDr.kp bDr .nil pass0 (pa_cons (pv 0) (pa_cons (pe_int) pa_nil))))) pa_nil)) (pa_cons (pe_callTy call_tupQ (by rfl) m_tuple (by decide +kernel) (pa_cons (pv 2) pa_nil)) pa_nil))))))), ?_⟩
    refine ⟨.ref st, rfl, st, c, r, t, _, rfl, hd, by omega, by decide, by decide, fun H1 d1 h10 h11 D1 X1 => ⟨_, _, rfl, rfl, ?_⟩⟩
    obtain ⟨n, hn⟩ : ∃ n : Nat, 1 + d1 = (n : Int) := ⟨(1 + d1).toNat, by omega⟩
    have hn3 : 1 ≤ n ∧ n ≤ 3 := by omega
    dsimp only
    rw [hn]
    refine ⟨Nat.zero_le _, fun Rw nRw => ?_⟩
    have oRw := D1.off nRw
    have fRw := X1.nil D1 nRw
    have D1' := D1.new nRw (o := .lst [])
    refine ⟨.ref st, rfl, st, c, r, t + 1, _, rfl, D1', by omega, by decide, by decide, fun H2 d2 h20 h21 D2 X2 => ⟨_, _, rfl, rfl, ?_⟩⟩
    refine ⟨1 + d2, rfl, by omega, by omega, for_it (walk_range (lo := 0) (n := (1 + d2).toNat))
      (fun i σ H4 => ∃ (y3 : Option V) (t4 : Nat) (vs : List V) (gs : List Gp), σ = [some (.ref st), some (.int n), some (.ref Rw), y3, none] ∧ DS H4 st c r t4 ∧ t4 ≤ t + 2 + 20 * i ∧ Ext st r H H4 ∧
        H4 Rw = some (.lst vs) ∧ DpAll K H4 vs (gs.map dGrp) ∧ gs.length = i ∧ ∀ g ∈ gs, g.1.length ≤ n ∧ (∀ p ∈ g.1, 0 ≤ p ∧ p < (n : Int)) ∧ (1 ≤ g.2 ∧ g.2 ≤ 2) ∧ g.1.Nodup)
      ⟨none, t + 2, [], [], rfl, D2, by omega, (X1.trans (Ext.of (sameNew nRw))).trans X2, X2 _ _ upd_same oRw.1 oRw.2.2, .nil, rfl, fun g h => by simp at h⟩ (fun _ _ _ _ _ => trivial) ?_ ?_⟩
    · rintro i v σ H4 H4' hlt ⟨y3, t4, vs, gs, rfl, d4, ht4, x4, eR, hvs, lgs, bgs⟩ ⟨rfl, rfl⟩
      have hi3 : i < 3 := by omega
      have hvl : vs.length = i := by rw [DpAll.len hvs, List.length_map, lgs]
      refine ⟨.ref Rw, rfl, .inl ⟨rfl, _, SqL.of eR⟩, .ref st, rfl, .int n, rfl, st, c, r, t4, n, rfl, d4, by omega, hn3.1, by omega, fun H5 p5 t5 ws D5 ht5 X5 e5 l5 b5 nd5 => ?_⟩
      refine ⟨.ref st, rfl, st, c, r, t5, _, rfl, D5, by omega, by decide, by decide, fun H6 d6 h60 h61 D6 X6 => ⟨_, _, rfl, rfl, (show (2 : Nat) ≤ sizeLine by decide), fun Gr nGr => ?_⟩⟩
      have eF6 := X6 _ _ (X5 _ _ eR oRw.1 oRw.2.2) oRw.1 oRw.2.2
      have eF8 := upNew nGr (o := .tup [.ref p5, .int (1 + d6)]) eF6
      have tk6 := (X5.tup d4).trans (X6.tup D5)
      have tkz : TupK H6 (upd (upd H6 Gr (.tup [.ref p5, .int (1 + d6)])) Rw (.lst (vs ++ [.ref Gr]))) := (TupK.new nGr).trans (TupK.put eF8)
      refine ⟨Rw, vs, _, rfl, rfl, eF8, by rw [hvl]; exact small (by omega), _, t5 + 1, vs ++ [.ref Gr], gs ++ [(ws, 1 + d6)], rfl, (D6.new nGr).put oRw.1 oRw.2.1 oRw.2.2, by omega, ExtPut (((x4.trans X5).trans X6).trans (Ext.of (sameNew nGr))) fRw, upd_same, ?_, by simp [lgs], ?_⟩
      · rw [List.map_append]
        refine DpAll.snoc ((tk6.trans tkz).dpAll _ _ (to_grps _) hvs) (.tup (SqT.of ?_) (.cons (dI_sq (tkz.sq ((X6.tup D5).sq (SqT.of e5)))) (.cons (.int _) .nil)))
        rw [upd_ne (ne_of_none eF6 nGr).symm]
        exact upd_same
      · intro g hg
        rw [List.mem_append] at hg
        rcases hg with h | h
        · exact bgs g h
        · simp only [List.mem_singleton] at h
          subst h
          exact ⟨l5, b5, ⟨by simp only; omega, by simp only; omega⟩, nd5⟩
    · rintro σ Hr ⟨y3, t4, vs, gs, rfl, d4, ht4, x4, eR, hvs, lgs, bgs⟩
      have hvl : vs.length = gs.length := by rw [DpAll.len hvs, List.length_map]
      refine ⟨.int n, rfl, n, rfl, by omega, by omega, fun D nD => ?_⟩
      have oD := d4.off nD
      have fD := x4.nil d4 nD
      have nRD : Rw ≠ D := ne_of_none eR nD
      refine lc_it (walk_range (lo := 0) (n := (n : Int).toNat))
        (fun j H5 => ∃ (t5 : Nat) (ls : List Int), DS H5 st c r t5 ∧ t5 ≤ t4 + j ∧ Ext st r H H5 ∧ TupK Hr H5 ∧ H5 Rw = some (.lst vs) ∧ H5 D = some (.lst (ls.map V.int)) ∧ ls.length = j ∧ ∀ x ∈ ls, 1 ≤ x ∧ x ≤ 3)
        ⟨t4, [], d4.new nD, by omega, x4.trans (Ext.of (sameNew nD)), TupK.new nD, upNew nD eR, upd_same, rfl, fun x h => by simp at h⟩ (fun _ _ _ _ => trivial) ?_ ?_
      · rintro j v H5 H6 hltj ⟨t5, ls, d5, ht5, x5, tk5, eR5, eD5, lD5, bD5⟩ ⟨rfl, rfl⟩
        have hj3 : j < 3 := by omega
        refine ⟨rfl, .ref st, rfl, st, c, r, t5, _, rfl, d5, by omega, by decide, by decide, fun H7 d7 h70 h71 D7 X7 => ⟨_, _, rfl, rfl, ?_⟩⟩
        have eD7 := X7 _ _ eD5 oD.1 oD.2.2
        refine ⟨_, eD7, by rw [List.length_map]; exact small (by omega), t5 + 1, ls ++ [1 + d7], D7.put oD.1 oD.2.1 oD.2.2, by omega, ExtPut (x5.trans X7) fD, (tk5.trans (X7.tup d5)).trans (TupK.put eD7), by rw [upd_ne nRD]; exact X7 _ _ eR5 oRw.1 oRw.2.2, ?_, by simp [lD5], ?_⟩
        · rw [upd_same, List.map_append]; rfl
        · intro y hy
          rw [List.mem_append] at hy
          rcases hy with h | h
          · exact bD5 y h
          · simp only [List.mem_singleton] at h; omega
      · rintro H5 ⟨t5, ls, d5, ht5, x5, tk5, eR5, eD5, lD5, bD5⟩
        have hl5 : ls.length = n := by omega
        refine ⟨D, _, rfl, .inl ⟨SqL.of eD5, fun Ct nCt => ⟨.ref Rw, rfl, Rw, _, rfl, .inl ⟨SqL.of (upNew nCt eR5), fun Gt nGt => ⟨(show (2 : Nat) ≤ sizeLine by decide), fun In nIn => ?_⟩⟩⟩⟩⟩
        have tkz : TupK H5 (upd (upd (upd H5 Ct (.tup (ls.map V.int))) Gt (.tup vs)) In (.tup [.ref Ct, .ref Gt])) := ((TupK.new nCt).trans (TupK.new nGt)).trans (TupK.new nIn)
        refine q _ In t5 ls gs (((d5.new nCt).new nGt).new nIn) (by omega) (((x5.trans (Ext.of (sameNew nCt))).trans (Ext.of (sameNew nGt))).trans (Ext.of (sameNew nIn)))
          (.tup (SqT.of upd_same) (.cons (dI_sq (((TupK.new nGt).trans (TupK.new nIn)).sq (SqT.of upd_same))) (.cons (.tup (SqT.of (upNew nIn upd_same)) ((tk5.trans tkz).dpAll _ _ (to_grps _) hvs)) .nil)))
          ⟨by omega, by omega, fun x hx => by have := bD5 x hx; omega, by omega, by omega, ?_⟩ (fun g hg => (bgs g hg).2.2.2) ⟨by omega, fun x hx => (bD5 x hx).2, by omega, fun g hg => (bgs g hg).2.2.1.2⟩
        rw [hl5]
        exact fun g hg => ⟨by have := (bgs g hg).1; omega, (bgs g hg).2.1, (bgs g hg).2.2.1.1, by have := (bgs g hg).2.2.1.2; omega⟩
def spFa (K : PySem.W.Frag) : Sp := fun vs H Q _ => ∃ (st c r : Addr) (t mo : Nat), vs = [.ref st, .int mo] ∧ DS H st c r t ∧ t + 500 ≤ 1000000 ∧ 1 ≤ mo ∧ mo ≤ 6 ∧
  ∀ (H' : Hp) (p : Addr) (t' : Nat) (cs : List Int) (gs : List Gp), DS H' st c r t' → t' ≤ t + 500 → Ext st r H H' → Dp K H' (.ref p) (dInst cs gs) → InsOk cs gs → (∀ g ∈ gs, g.1.Nodup) → Q (.ref p) H'
end
end Pv

namespace Pv
open PySem PySem.Spec PyProof.Rows L2
abbrev sAs : Stmt := topS 37
theorem scAs : FnScope ["_law_stream_here", "_law_instance", "_law_left", "_law_found", "_law_rest_first", "_law_posts", "_law_count", "_law_rest", "_law_numbers", "_law_post", "_law_room", "_law_taken"] ["_law_stream_here", "_law_instance"] (defScope sAs) := ⟨rfl, rfl, rfl, by decide +kernel, rfl, by decide +kernel, by decide +kernel⟩
section
variable {P : Program} {w : World} {K : PySem.W.Frag} {mg : Str → Option Value} {base : Heap}
def rowLoads (ls : List Int) (ps row : List Int) : List Int := (ps.zip row).foldl (fun l q => addAt l q.1 q.2) ls
def loadsFrom (ls : List Int) (gs : List Gp) (rows : List (List Int)) : List Int := (gs.zip rows).foldl (fun l q => rowLoads l q.1.1 q.2) ls
theorem rowLoads_len (ps row : List Int) (ls : List Int) : (rowLoads ls ps row).length = ls.length := by
  unfold rowLoads
  generalize ps.zip row = z
  induction z generalizing ls with
  | nil => rfl
  | cons q z ih => rw [List.foldl_cons, ih, addAt_len]
theorem loadsFrom_len (gs : List Gp) (rows : List (List Int)) (ls : List Int) : (loadsFrom ls gs rows).length = ls.length := by
  unfold loadsFrom
  generalize gs.zip rows = z
  induction z generalizing ls with
  | nil => rfl
  | cons q z ih => rw [List.foldl_cons, ih, rowLoads_len]
def Shp (gs : List Gp) (rows : List (List Int)) : Prop := rows.length = gs.length ∧ ∀ (i : Nat) (g : Gp) (row : List Int), gs[i]? = some g → rows[i]? = some row → row.length = g.1.length + 1
def Bd (rows : List (List Int)) : Prop := ∀ row ∈ rows, ∀ x ∈ row, 0 ≤ x ∧ x ≤ 10 ^ 12
theorem Shp.snoc {gs : List Gp} {rows : List (List Int)} {i : Nat} {g : Gp} {row : List Int} (h : Shp (gs.take i) rows) (hg : gs[i]? = some g) (hr : row.length = g.1.length + 1) : Shp (gs.take (i + 1)) (rows ++ [row]) := by
  have hil : i < gs.length := (List.getElem?_eq_some_iff.mp hg).1
  have hl : rows.length = i := by rw [h.1, List.length_take]; omega
  rw [take_snoc hg]
  refine ⟨by simp [hl]; omega, ?_⟩
  intro j g' row' h1 h2
  by_cases hj : j < i
  · rw [List.getElem?_append_left (by rw [List.length_take]; omega)] at h1
    rw [List.getElem?_append_left (by omega)] at h2
    exact h.2 j g' row' h1 h2
  · rw [List.getElem?_append_right (by omega)] at h2
    rw [List.getElem?_append_right (by rw [List.length_take]; omega)] at h1
    have e : j - rows.length = 0 := by
      have := (List.getElem?_eq_some_iff.mp h2).1; simp at this; omega
    have e1 : j - (gs.take i).length = 0 := by rw [List.length_take]; omega
    rw [e] at h2; rw [e1] at h1
    simp at h1 h2
    rw [← h1, ← h2]; exact hr
theorem rowLoads_snoc {ls ps row : List Int} {j : Nat} {p x : Int} (hp : ps[j]? = some p) (hl : row.length = j) : rowLoads ls (ps.take (j + 1)) (row ++ [x]) = addAt (rowLoads ls (ps.take j) row) p x := by
  have l1 := (List.getElem?_eq_some_iff.mp hp).1
  unfold rowLoads
  rw [take_snoc hp, List.zip_append (by rw [List.length_take]; omega), List.foldl_append]
  rfl
theorem rowLoads_more {ls ps row : List Int} {x : Int} (hl : row.length = ps.length) : rowLoads ls ps (row ++ [x]) = rowLoads ls ps row := by
  unfold rowLoads
  congr 1
  have := List.zip_append (l₁ := ps) (r₁ := []) (l₂ := row) (r₂ := [x]) hl.symm
  simpa using this
theorem loadsFrom_snoc {ls : List Int} {gs : List Gp} {rows : List (List Int)} {i : Nat} {g : Gp} {row : List Int} (hg : gs[i]? = some g) (hl : rows.length = i) : loadsFrom ls (gs.take (i + 1)) (rows ++ [row]) = rowLoads (loadsFrom ls (gs.take i) rows) g.1 row := by
  have l1 := (List.getElem?_eq_some_iff.mp hg).1
  unfold loadsFrom
  rw [take_snoc hg, List.zip_append (by rw [List.length_take]; omega), List.foldl_append]
  rfl
theorem addAt_get {ls : List Int} {p : Nat} {x : Int} (hp : p < ls.length) (k : Nat) : (addAt ls (p : Int) x).getD k 0 = if k = p then ls.getD p 0 + x else ls.getD k 0 := by
  unfold addAt
  rw [Int.toNat_natCast]
  simp only [List.getD_eq_getElem?_getD, List.getElem?_set]
  by_cases h : p = k
  · subst h; simp [hp]
  · have h' : ¬ k = p := fun z => h z.symm
    simp [h, h']
/-- what a drawn assignment is -/
def Fits (cs : List Int) (gs : List Gp) (rows : List (List Int)) : Prop := ∃ pls : List Int, pls.length = cs.length ∧ (∀ x ∈ pls, 0 ≤ x) ∧ ∀ p, p < cs.length → pls.getD p 0 + (loadsFrom (zeros cs.length) gs rows).getD p 0 = cs.getD p 0
def spAs (K : PySem.W.Frag) : Sp := fun vs H Q _ => ∃ (st c r i : Addr) (t : Nat) (cs : List Int) (gs : List Gp), vs = [.ref st, .ref i] ∧ DS H st c r t ∧ t + 200 ≤ 1000000 ∧ Dp K H (.ref i) (dInst cs gs) ∧ InsOk cs gs ∧
  ∀ (H' : Hp) (p : Addr) (t' : Nat) (rows : List (List Int)), DS H' st c r t' → t' ≤ t + 200 → Ext st r H H' → Dp K H' (.ref p) (dAsg rows) → Shp gs rows → Bd rows → (∀ (k : Nat) (g : Gp) (row : List Int), gs[k]? = some g → rows[k]? = some row → row.sum = g.2) → Fits cs gs rows → Q (.ref p) H'
set_option maxHeartbeats 4000000 in
theorem ok_As {f fDr : Addr} {fd fdDr : FuncData} (F : Fun K "_law_assignment" "_law_assignment" sAs f fd)
    (FDr : Fun K "_law_draw" "_law_draw" sDraw fDr fdDr) (bDr : Binds K fdDr ["_law_stream_here", "_law_bound"] []) (gDr : mg "_law_draw" = some (.ref fDr)) (GDr : FnOk P w K mg base CX0 1 fDr fdDr ["_law_stream_here", "_law_bound"] spDraw)
    (m_list : mg "list" = none) (m_min : mg "min" = none) (m_int : mg "int" = none) (m_tuple : mg "tuple" = none) :
    FnOk P w K mg base CX0 2 f fd ["_law_stream_here", "_law_instance"] (spAs K) := by
  refine F.ok scAs (fun vs H Q E h => ?_) (fun cdv A outer s H vs Q E hr h => ?_)
  · obtain ⟨st, c, r, i, t, cs, gs, rfl, _⟩ := h; rfl
  · obtain ⟨st, c, r, i, t, cs, gs, rfl, hd, ht, hI, ok, q⟩ := h
    refine ⟨_, pss_cons (ps_set (i := 2) scAs.nd rfl (.inl rfl) (pe_callTy call_list_of (by rfl) m_list (by decide +kernel) (pa_cons (pe_ix ix_tup (pv 1) (pe_int) (fun _ _ => rfl)) pa_nil)))
      (pss_cons (ps_set (i := 3) scAs.nd rfl (.inl rfl) (pe_lst (pa_nil)))
      (pss_cons (ps_set (i := 4) scAs.nd rfl (.inl rfl) (pe_call GDr (hr.mono (by omega)) (by rfl) gDr FDr.kp bDr .nil pass0 (pa_cons (pv 0) (pa_cons (pe_int) pa_nil))))
      (pss_cons (ps_for PassesOwn.never rfl (pi_tup (pe_ix ix_tup (pv 1) (pe_int) (fun _ _ => rfl))) (pg_tup rfl (pgs_cons (pg_name (i := 5) scAs.nd rfl (.inl rfl)) (pgs_cons (pg_name (i := 6) scAs.nd rfl (.inl rfl)) pgs_nil)))
        (pss_cons (ps_par (i := 7) (j := 8) rfl scAs.nd rfl rfl (by decide) rfl rfl (pa_cons (pv 6) (pa_cons (pe_lst (pa_nil)) pa_nil)) rfl)
        (pss_cons (ps_for PassesOwn.never rfl (pi_tup (pv 5)) (pg_name (i := 9) scAs.nd rfl (.inl rfl))
          (pss_cons (ps_set (i := 10) scAs.nd rfl (.inl rfl) (pe_callB (call_min2 rfl) (by rfl) m_min (by decide +kernel) (pa_cons (pv 7) (pa_cons (pe_ix ix_list (pv 2) (pv 9) (fun _ _ => rfl)) pa_nil))))
          (pss_cons (ps_set (i := 11) scAs.nd rfl (.inl rfl) (pe_ix ix_list (pe_lst (pa_cons (pv 10) (pa_cons (pe_op op_mul (pv 10) (pe_callTy call_int1 (by rfl) m_int (by decide +kernel) (pa_cons (pe_cmpR op_eq (pv 4) (pe_int) (nomark _)) pa_nil))) (pa_cons (pe_call GDr (hr.mono (by omega)) (by rfl) gDr FDr.kp bDr .nil pass0 (pa_cons (pv 0) (pa_cons (pe_op op_add (pv 10) (pe_int)) pa_nil))) pa_nil)))) (pe_call GDr (hr.mono (by omega)) (by rfl) gDr FDr.kp bDr .nil pass0 (pa_cons (pv 0) (pa_cons (pe_int) pa_nil))) (fun _ _ => rfl)))
          (pss_cons (ps_asg (pe_op op_sub (pe_ix ix_list (pv 2) (pv 9) (fun _ _ => rfl)) (pv 11)) (pg_sub (pv 2) (pv 9) set_list))
          (pss_cons (ps_set (i := 7) scAs.nd rfl (.inl rfl) (pe_op op_sub (pv 7) (pv 11)))
          (pss_one (ps_expr (pe_bm PySem.F.plainAttrs_list PySem.F.slot_list_append PySem.F.type_list_append mt_append (pv 8) (pa_cons (pv 11) pa_nil)))))))))
        (pss_one (ps_expr (pe_bm PySem.F.plainAttrs_list PySem.F.slot_list_append PySem.F.type_list_append mt_append (pv 3) (pa_cons (pe_callTy call_tupQ (by rfl) m_tuple (by decide +kernel) (pa_cons (pe_op op_cat (pv 8) (pe_lst (pa_cons (pv 7) pa_nil))) pa_nil)) pa_nil)))))))
      (pss_one (ps_ret (pe_callTy call_tupQ (by rfl) m_tuple (by decide +kernel) (pa_cons (pv 3) pa_nil))))))), ?_⟩
    obtain ⟨_, ca, ga, xs, e, hi, hc, hg, hgs⟩ := inst_open hI
    cases e
    have lx := DpAll.len hgs
    rw [List.length_map] at lx
    refine ⟨.ref i, rfl, i, _, 0, .ref ca, rfl, rfl, hi, atI_nat (j := 0) rfl, ca, _, rfl, .inr hc, fun Pl nPl => ⟨Nat.zero_le _, fun Fo nFo => ?_⟩⟩
    have oPl := hd.off nPl
    have d1 := (hd.new nPl (o := .lst (cs.map V.int))).new nFo (o := .lst [])
    have oFo := (hd.new nPl (o := .lst (cs.map V.int))).off nFo
    have fFo : H Fo = none := freeOf nFo
    have nPF : Pl ≠ Fo := ne_of_none upd_same nFo
    have s1 : Same H (upd (upd H Pl (.lst (cs.map V.int))) Fo (.lst [])) := (sameNew nPl).trans (sameNew nFo)
    refine ⟨.ref st, rfl, st, c, r, t, _, rfl, d1, by omega, by decide, by decide, fun H1 rf hrf0 hrf1 D1 X1 => ?_⟩
    have x1 := (Ext.of s1).trans X1
    have tk1 := x1.tup hd
    refine ⟨.ref i, rfl, i, _, 1, .ref ga, rfl, rfl, tk1.sq hi, atI_nat (j := 1) rfl, ga, rfl, ⟨_, tk1.sq hg⟩, for_it (walk_tup (K := K) (a := ga) (xs := xs))
      (fun i' σ H2 => ∃ y5 y6 y7 y8 y9 y10 y11 t' pls vs rows, σ = [some (.ref st), some (.ref i), some (.ref Pl), some (.ref Fo), some (.int rf), y5, y6, y7, y8, y9, y10, y11] ∧ DS H2 st c r t' ∧ t' ≤ t + 1 + 18 * i' ∧ Ext st r H H2 ∧
        H2 Pl = some (.lst (List.map V.int pls)) ∧ pls.length = cs.length ∧ (∀ x ∈ pls, 0 ≤ x ∧ x ≤ 10 ^ 12) ∧ H2 Fo = some (.lst vs) ∧ DpAll K H2 vs (List.map dI rows) ∧ Shp (gs.take i') rows ∧ Bd rows ∧ (∀ p, p < cs.length → pls.getD p 0 + (loadsFrom (zeros cs.length) (gs.take i') rows).getD p 0 = cs.getD p 0) ∧ ∀ (k : Nat) (g : Gp) (row : List Int), (gs.take i')[k]? = some g → rows[k]? = some row → row.sum = g.2)
      ⟨none, none, none, none, none, none, none, t + 1, cs, [], [], rfl, D1, by omega, x1, X1 _ _ (upNew nFo upd_same) oPl.1 oPl.2.2, rfl, fun x hx => ⟨by have := (ok.cb x hx).1; omega, (ok.cb x hx).2⟩, X1 _ _ upd_same oFo.1 oFo.2.2, .nil, ⟨by simp, by intro j g row h; simp at h⟩, (fun row h => by simp at h), (fun p hp => by simp [loadsFrom, zeros, List.getD_eq_getElem?_getD, hp]), fun k g row h => by simp at h⟩ ?_ ?_ ?_⟩
    · rintro i' σ H2 _ ⟨y5, y6, y7, y8, y9, y10, y11, t', pls, vs, rows, rfl, d2, _, x2, _⟩
      exact (x2.tup hd).sq hg
    · rintro i' v σ H2 H3 hlt ⟨y5, y6, y7, y8, y9, y10, y11, t', pls, vs, rows, rfl, d2, ht2, x2, eP, lP, bP, eF, hvs, hsh, hbd, hld, hsm⟩ ⟨rfl, hx⟩
      obtain ⟨d, hdd, hxd⟩ := DpAll.at hgs hx
      rw [List.getElem?_map] at hdd
      obtain ⟨g, hgi, rfl⟩ := Option.map_eq_some_iff.mp hdd
      obtain ⟨gA, pA, rfl, hG, hP⟩ := grp_ref hxd
      have tk2 := x2.tup hd
      obtain ⟨gl6, gpr, gc1, gc2⟩ := ok.gp g (List.mem_of_getElem? hgi)
      have hi10 : i' < 10 := by have := ok.g10; omega
      refine ⟨gA, _, rfl, tk2.sq hG, rfl, _, _, rfl, _, _, rfl, rfl, ?_⟩
      refine ⟨.int g.2, rfl, Nat.zero_le _, fun Nu nNu => ⟨_, _, rfl, ?_⟩⟩
      have oNu := d2.off nNu
      have nNP : Pl ≠ Nu := ne_of_none eP nNu
      have nNF : Fo ≠ Nu := ne_of_none eF nNu
      have hNu : H Nu = none := by
        cases e : H Nu with
        | none => rfl
        | some o => rw [x2 _ _ e oNu.1 oNu.2.2] at nNu; cases nNu
      generalize hH4 : upd H3 Nu (.lst []) = H4
      have eN4 : H4 Nu = some (.lst []) := by rw [← hH4]; exact upd_same
      have s4 : Same H3 H4 := by rw [← hH4]; exact sameNew nNu
      have tk4 := tk2.trans (TupK.of s4)
      refine ⟨.ref pA, rfl, pA, rfl, ⟨_, tk4.sq hP⟩, for_it (walk_tup (K := K) (a := pA) (xs := g.1.map V.int))
        (fun j σ H5 => ∃ (y9 y10 y11 : Option V) (cnt : Int) (t5 : Nat) (ps2 nums : List Int), σ = [some (.ref st), some (.ref i), some (.ref Pl), some (.ref Fo), some (.int rf), some (.ref pA), some (.int g.2), some (.int cnt), some (.ref Nu), y9, y10, y11] ∧ DS H5 st c r t5 ∧ t5 ≤ t' + 3 * j ∧
          Ext st r H H5 ∧ TupK H3 H5 ∧ H5 Pl = some (.lst (ps2.map V.int)) ∧ ps2.length = cs.length ∧ (∀ x ∈ ps2, 0 ≤ x ∧ x ≤ 10 ^ 12) ∧ H5 Fo = some (.lst vs) ∧
          H5 Nu = some (.lst (nums.map V.int)) ∧ nums.length = j ∧ (∀ x ∈ nums, 0 ≤ x ∧ x ≤ 10 ^ 12) ∧ 0 ≤ cnt ∧ cnt ≤ 10 ^ 12 ∧ nums.sum + cnt = g.2 ∧ ∀ p, p < cs.length → ps2.getD p 0 + (rowLoads (loadsFrom (zeros cs.length) (gs.take i') rows) (g.1.take j) nums).getD p 0 = cs.getD p 0)
        ⟨y9, y10, y11, g.2, t', pls, [], rfl, d2.same s4, by omega, x2.trans (Ext.of s4), TupK.of s4, s4 _ _ eP, lP, bP, s4 _ _ eF, eN4, rfl, (fun x h => by simp at h), by omega, gc2, by simp, by simpa [rowLoads] using hld⟩ ?_ ?_ ?_⟩
      · rintro j σ H5 _ ⟨y9, y10, y11, cnt, t5, ps2, nums, rfl, d5, ht5, x5, tk5, _⟩
        exact (tk2.trans tk5).sq hP
      · rintro j v σ H5 H6 hltj ⟨y9, y10, y11, cnt, t5, ps2, nums, rfl, d5, ht5, x5, tk5, eP5, lP5, bP5, eF5, eN5, lN5, bN5, c0, c1, hsum5, hld5⟩ ⟨rfl, hx2⟩
        rw [List.getElem?_map] at hx2
        obtain ⟨pp, hpp, rfl⟩ := Option.map_eq_some_iff.mp hx2
        have hpr := gpr pp (List.mem_of_getElem? hpp)
        obtain ⟨pn, rfl⟩ : ∃ pn : Nat, pp = pn := ⟨pp.toNat, by omega⟩
        have hpl : pn < ps2.length := by omega
        have hj6 : j < 6 := by have := (List.getElem?_eq_some_iff.mp hpp).1; omega
        have hpv : (ps2.map V.int)[pn]? = some (.int ps2[pn]) := by rw [List.getElem?_map, List.getElem?_eq_getElem hpl]; rfl
        have hpb := bP5 ps2[pn] (List.getElem_mem hpl)
        -- room
        refine ⟨.int cnt, rfl, .ref Pl, rfl, .int pn, rfl, Pl, _, _, .int ps2[pn], rfl, rfl, SqL.of eP5, atI_nat hpv, _, _, rfl, ?_⟩
        obtain ⟨rm, hrm, hr0, hr1, hr2⟩ : ∃ rm : Int, (if ps2[pn] < cnt then ps2[pn] else cnt) = rm ∧ 0 ≤ rm ∧ rm ≤ cnt ∧ rm ≤ ps2[pn] := ⟨_, rfl, by split <;> omega, by split <;> omega, by split <;> omega⟩
        rw [hrm]
        refine ⟨.int rm, rfl, .int rm, rfl, .int rf, rfl, rfl, .inr ⟨_, rfl, _, _, rfl, rfl, .inr ⟨by split <;> decide, by split <;> decide⟩, .ref st, rfl, .int rm, rfl, _, _, rfl, rfl, st, c, r, t5, _, rfl, d5, by omega, by omega, by omega, fun H7 dd h70 h71 D7 X7 => ?_⟩⟩
        refine ⟨(show (3 : Nat) ≤ sizeLine by decide), fun Lt nLt => ⟨.ref st, rfl, st, c, r, t5 + 1, _, rfl, D7.new nLt, by omega, by decide, by decide, fun H8 kk h80 h81 D8 X8 => ?_⟩⟩
        obtain ⟨oL1, _, oL3⟩ := D7.off nLt
        have eL8 := X8 _ _ upd_same oL1 oL3
        have x8 := (X7.trans (Ext.of (sameNew nLt))).trans X8
        have tk58 : TupK H6 H8 := x8.tup d5
        obtain ⟨d, hat, h0, hd1, hd2⟩ : ∃ d : Int, atI [V.int rm, V.int (rm * (if decide (V.int rf = V.int 0) = true then 1 else 0)), V.int dd] kk = some (.int d) ∧ 0 ≤ d ∧ d ≤ cnt ∧ d ≤ ps2[pn] := by
          obtain h | h | h : kk = 0 ∨ kk = 1 ∨ kk = 2 := by omega
          · exact ⟨rm, by rw [h]; rfl, hr0, hr1, hr2⟩
          · refine ⟨_, by rw [h]; rfl, ?_⟩
            split <;> omega
          · exact ⟨dd, by rw [h]; rfl, h70, by omega, by omega⟩
        refine ⟨Lt, _, _, _, rfl, rfl, SqL.of eL8, hat, ?_⟩
        have eP7 := x8 _ _ eP5 oPl.1 oPl.2.2
        have eF7 := x8 _ _ eF5 oFo.1 oFo.2.2
        have eN7 := x8 _ _ eN5 oNu.1 oNu.2.2
        refine ⟨.ref Pl, rfl, .int pn, rfl, Pl, _, _, .int ps2[pn], rfl, rfl, SqL.of eP7, atI_nat hpv, .int d, rfl, _, _, rfl, rfl, .ref Pl, rfl, .int pn, rfl, Pl, _, _, pn, rfl, rfl, eP7, ixN_nat (by rw [List.length_map]; exact hpl), ?_⟩
        refine ⟨.int cnt, rfl, .int d, rfl, _, _, rfl, rfl, ?_⟩
        have eN8 : (upd H8 Pl (.lst ((ps2.map V.int).set pn (.int (ps2[pn] - d))))) Nu = some (.lst (nums.map V.int)) := by rw [upd_ne nNP.symm]; exact eN7
        refine ⟨.ref Nu, rfl, .inl ⟨rfl, _, SqL.of eN8⟩, .int d, rfl, Nu, _, _, rfl, rfl, eN8, ?_, ?_⟩
        · rw [List.length_map]; exact small (by omega)
        refine ⟨_, _, _, cnt - d, t5 + 2, ps2.set pn (ps2[pn] - d), nums ++ [d], rfl, (D8.put oPl.1 oPl.2.1 oPl.2.2).put oNu.1 oNu.2.1 oNu.2.2, by omega, ExtPut (ExtPut (x5.trans x8) nPl) hNu, ((tk5.trans tk58).trans (TupK.put eP7)).trans (TupK.put eN8), ?_, ?_, ?_, ?_, ?_, ?_, ?_, by omega, by omega, by rw [List.sum_append]; simp; omega, ?_⟩
        · rw [upd_ne nNP, upd_same, List.map_set]
        · rw [List.length_set]; exact lP5
        · intro x hx
          rcases List.mem_or_eq_of_mem_set hx with h | h
          · exact bP5 x h
          · rw [h]; omega
        · rw [upd_ne nNF, upd_ne nPF.symm]; exact eF7
        · rw [upd_same, List.map_append]; rfl
        · simp [lN5]
        · intro x hx
          rw [List.mem_append] at hx
          rcases hx with h | h
          · exact bN5 x h
          · simp at h; omega
        · intro p hp
          rw [rowLoads_snoc hpp lN5]
          have hrl : pn < (rowLoads (loadsFrom (zeros cs.length) (gs.take i') rows) (g.1.take j) nums).length := by rw [rowLoads_len, loadsFrom_len]; simp [zeros]; omega
          rw [addAt_get hrl]
          have e1 := hld5 p hp
          have e2 := hld5 pn (by omega)
          by_cases hpe : p = pn
          · subst hpe
            rw [if_pos rfl]
            have : (ps2.set p (ps2[p] - d)).getD p 0 = ps2[p] - d := by simp [List.getD_eq_getElem?_getD, hpl]
            have e3 : ps2.getD p 0 = ps2[p] := by simp [List.getD_eq_getElem?_getD, hpl]
            rw [this]; rw [e3] at e2; omega
          · rw [if_neg hpe]
            have : (ps2.set pn (ps2[pn] - d)).getD p 0 = ps2.getD p 0 := by simp only [List.getD_eq_getElem?_getD]; rw [List.getElem?_set_ne (fun z => hpe z.symm)]
            rw [this]; exact e1
      · rintro σ H5 ⟨z9, z10, z11, cnt, t5, ps2, nums, rfl, d5, ht5, x5, tk5, eP5, lP5, bP5, eF5, eN5, lN5, bN5, c0, c1, hsum5, hld5⟩
        rw [List.length_map] at ht5 lN5 hld5
        rw [List.take_length] at hld5
        have hvl : vs.length = i' := by rw [DpAll.len hvs, List.length_map, hsh.1, List.length_take]; omega
        -- found.append(tuple(numbers + [rest]))
        refine ⟨.ref Fo, rfl, .inl ⟨rfl, _, SqL.of eF5⟩, .ref Nu, rfl, .int cnt, rfl, (show (1 : Nat) ≤ sizeLine by decide), fun p1 n1 => ?_⟩
        refine ⟨Nu, p1, _, _, rfl, rfl, upNew n1 eN5, upd_same, ?_, fun p2 n2 => ⟨p2, _, rfl, .inl ⟨SqL.of upd_same, fun p n3 => ?_⟩⟩⟩
        · rw [List.length_map, lN5]; have := small (n := g.1.length + 1) (by omega); simp; omega
        have s9 := ((sameNew (o := .lst [.int cnt]) n1).trans (sameNew (o := .lst (nums.map V.int ++ [.int cnt])) n2)).trans (sameNew (o := .tup (nums.map V.int ++ [.int cnt])) n3)
        have h9 : SqT K (upd (upd (upd H5 p1 (.lst [.int cnt])) p2 (.lst (nums.map V.int ++ [.int cnt]))) p (.tup (nums.map V.int ++ [.int cnt]))) p ((nums ++ [cnt]).map V.int) := SqT.of (by rw [upd_same, List.map_append]; rfl)
        generalize upd (upd (upd H5 p1 (.lst [.int cnt])) p2 (.lst (nums.map V.int ++ [.int cnt]))) p (.tup (nums.map V.int ++ [.int cnt])) = H9 at s9 h9
        have eF9 := s9 _ _ eF5
        have tk9 : TupK H9 (upd H9 Fo (.lst (vs ++ [.ref p]))) := TupK.put eF9
        refine ⟨Fo, vs, .ref p, rfl, rfl, eF9, by rw [hvl]; exact small (by omega), _, _, _, _, _, _, _, t5, ps2, vs ++ [.ref p], rows ++ [nums ++ [cnt]], rfl, (d5.same s9).put oFo.1 oFo.2.1 oFo.2.2, by omega, ExtPut (x5.trans (Ext.of s9)) fFo, by rw [upd_ne nPF]; exact s9 _ _ eP5, lP5, bP5, upd_same, ?_, hsh.snoc hgi (by simp [lN5]), ?_, ?_, ?_⟩
        · rw [List.map_append]
          exact DpAll.snoc (((tk5.trans (TupK.of s9)).trans tk9).dpAll _ _ (to_rows _) hvs) (dI_sq (tk9.sq h9))
        · intro row hrow
          rw [List.mem_append] at hrow
          rcases hrow with h | h
          · exact hbd row h
          · simp at h
            subst h
            intro x hx
            rw [List.mem_append] at hx
            rcases hx with h | h
            · exact bN5 x h
            · simp at h; omega
        · intro p hp
          have hrl : rows.length = i' := by rw [hsh.1, List.length_take]; omega
          rw [loadsFrom_snoc hgi hrl, rowLoads_more lN5]
          exact hld5 p hp
        · intro k g' row' hk1 hk2
          have hrl : rows.length = i' := by rw [hsh.1, List.length_take]; omega
          rw [take_snoc hgi] at hk1
          by_cases hki : k < i'
          · rw [List.getElem?_append_left (by rw [List.length_take]; omega)] at hk1
            rw [List.getElem?_append_left (by omega)] at hk2
            exact hsm k g' row' hk1 hk2
          · rw [List.getElem?_append_right (by omega)] at hk2
            rw [List.getElem?_append_right (by rw [List.length_take]; omega)] at hk1
            have e0 : k - rows.length = 0 := by have := (List.getElem?_eq_some_iff.mp hk2).1; simp at this; omega
            have e1 : k - (gs.take i').length = 0 := by rw [List.length_take]; omega
            rw [e0] at hk2; rw [e1] at hk1
            simp at hk1 hk2
            rw [← hk1, ← hk2, List.sum_append]
            simpa using hsum5
    · rintro σ H2 ⟨y5, y6, y7, y8, y9, y10, y11, t', pls, vs, rows, rfl, d2, ht2, x2, eP, lP, bP, eF, hvs, hsh, hbd, hld, hsm⟩
      rw [lx, List.take_length] at hsh hld hsm
      have := ok.g10
      exact ⟨.ref Fo, rfl, Fo, _, rfl, .inl ⟨SqL.of eF, fun p np => q _ p t' rows (d2.new np) (by omega) (x2.trans (Ext.of (sameNew np))) (.tup (SqT.of upd_same) ((TupK.new np).dpAll _ _ (to_rows _) hvs)) hsh hbd hsm ⟨pls, lP, fun x hx => (bP x hx).1, hld⟩⟩⟩
end
end Pv

namespace Pv
open PySem PySem.Spec PyProof.Rows L2
abbrev sVo : Stmt := topS 12
theorem scVo : FnScope ["start", "end"] ["start", "end"] (defScope sVo) := ⟨rfl, rfl, rfl, by decide +kernel, rfl, by decide +kernel, by decide +kernel⟩
abbrev sLV : Stmt := topS 38
theorem scLV : FnScope ["_law_option", "_law_other"] ["_law_option", "_law_other"] (defScope sLV) := ⟨rfl, rfl, rfl, by decide +kernel, rfl, by decide +kernel, by decide +kernel⟩
abbrev sBg : Stmt := topS 25
theorem scBg : FnScope ["start", "costs", "end", "cost"] ["start", "costs"] (defScope sBg) := ⟨rfl, rfl, rfl, by decide +kernel, rfl, by decide +kernel, by decide +kernel⟩
abbrev sPl : Stmt := topS 24
theorem scPl : FnScope ["instance", "assignment", "prices", "total", "group", "share", "costs", "capacity", "price", "post", "start", "number"] ["instance", "assignment", "prices"] (defScope sPl) := ⟨rfl, rfl, rfl, by decide +kernel, rfl, by decide +kernel, by decide +kernel⟩
abbrev sLL : Stmt := topS 39
theorem scLL : FnScope ["_law_instance", "_law_assignment_here", "_law_prices", "_law_total", "_law_posts", "_law_count", "_law_numbers", "_law_costs", "_law_option", "_law_number", "_law_capacity", "_law_price", "_law_post", "_law_k"] ["_law_instance", "_law_assignment_here", "_law_prices"] (defScope sLL) := ⟨rfl, rfl, rfl, by decide +kernel, rfl, by decide +kernel, by decide +kernel⟩
def voteI (s e : Int) : Int := if e < s then 1 else if e > s then -1 else 0
def mx : List Int → Int
  | [] => 0
  | [a] => a
  | a :: b :: l => if mx (b :: l) < a then a else mx (b :: l)
theorem mx_spec : ∀ {l : List Int}, l ≠ [] → mx l ∈ l ∧ ∀ y ∈ l, y ≤ mx l
  | [], h => absurd rfl h
  | [a], _ => by simp [mx]
  | a :: b :: l, _ => by
    obtain ⟨h1, h2⟩ := mx_spec (l := b :: l) (by simp)
    simp only [mx]
    split
    · rename_i h
      refine ⟨by simp, fun y hy => ?_⟩
      rcases List.mem_cons.mp hy with rfl | hy
      · exact Int.le_refl _
      · have := h2 y hy; omega
    · rename_i h
      refine ⟨List.mem_cons_of_mem _ h1, fun y hy => ?_⟩
      rcases List.mem_cons.mp hy with rfl | hy
      · omega
      · exact h2 y hy
theorem mx_of {l : List Int} {m : Int} (h1 : m ∈ l) (h2 : ∀ y ∈ l, y ≤ m) : m = mx l := by
  obtain ⟨k1, k2⟩ := mx_spec (List.ne_nil_of_mem h1)
  have a := h2 _ k1
  have b := k2 _ h1
  omega
def gainAt (s : Int) (costs : List Int) (k : Nat) : Int := voteI s k - costs.getD k 0
def gains (s : Int) (costs : List Int) : List Int := (List.range costs.length).map (gainAt s costs)
def prAt (pr : List Int) (p : Int) : Int := pr.getD p.toNat 0
def costsOf (pr ps : List Int) : List Int := ps.map (prAt pr) ++ [0]
def partAt (costs row : List Int) (j : Nat) : Int := row.getD j 0 * mx (gains j costs)
def rowLim (costs row : List Int) : Int := ((List.range row.length).map (partAt costs row)).sum
def capLim (cs pr : List Int) : Int := ((List.range (min cs.length pr.length)).map fun j => cs.getD j 0 * pr.getD j 0).sum
def limI (cs : List Int) (gs : List Gp) (rows : List (List Int)) (pr : List Int) (n : Nat) : Int := capLim cs pr + ((List.range n).map fun j => rowLim (costsOf pr (gs.getD j ([], 0)).1) (rows.getD j [])).sum
theorem gains_snoc {s : Int} {costs : List Int} {k : Nat} (h : k < costs.length) : (gains s costs).take (k + 1) = (gains s costs).take k ++ [gainAt s costs k] := take_snoc (by simp [gains, h])
theorem lim_snoc (cs : List Int) (gs : List Gp) (rows : List (List Int)) (pr : List Int) (n : Nat) : limI cs gs rows pr (n + 1) = limI cs gs rows pr n + rowLim (costsOf pr (gs.getD n ([], 0)).1) (rows.getD n []) := by
  unfold limI
  rw [List.range_succ, List.map_append, List.sum_append]
  simp
  omega
theorem getD_at {α : Type} {l : List α} {i : Nat} {x d : α} (h : l[i]? = some x) : l.getD i d = x := by rw [List.getD_eq_getElem?_getD, h]; rfl
theorem walk_enumL {K : PySem.W.Frag} {a : Addr} {xs : List V} : Walk (Ite K a) xs.length (fun H => SqL K H a xs) (YPair (fun i => some (.int (i : Nat))) (fun i => xs[i]?)) := by
  constructor
  · intro i H hi q
    exact ⟨xs, xs[i], q, by simp [hi]⟩
  · intro H q
    exact ⟨xs, q, Nat.le_refl _⟩
  · rintro i H v H' _ q ⟨T, x, h1, h2, h3, h4⟩
    exact ⟨T, _, x, h1, h2, h3, rfl, h4 xs q⟩
section
variable {P : Program} {w : World} {K : PySem.W.Frag} {mg : Str → Option Value} {base : Heap}
def spVo : Sp := fun vs H Q _ => ∃ (s e : Int), vs = [.int s, .int e] ∧ Q (.int (voteI s e)) H
theorem ok_Vo {f : Addr} {fd : FuncData} (F : Fun K "vote" "vote" sVo f fd)
     :
    FnOk P w K mg base CX0 1 f fd ["start", "end"] spVo := by
  refine F.ok scVo (fun vs H Q E h => ?_) (fun cdv A outer s H vs Q E hr h => ?_)
  · obtain ⟨s, e, rfl, _⟩ := h; rfl
  · obtain ⟨s, e, rfl, q⟩ := h
    refine ⟨_, pss_cons (ps_if (pt_cmpR op_lt (pv 1) (pv 0) (nomark _))
        (pss_one (ps_ret (pe_int))) pss_nil)
      (pss_one (ps_ret (pe_ifExp (pt_cmpR op_gt (pv 1) (pv 0) (nomark _)) (pe_un un_neg (pe_int)) (pe_int)))), ?_⟩
    refine ⟨.int e, rfl, .int s, rfl, _, _, rfl, rfl, _, rfl, ite2 (fun h1 => ?_) (fun h1 => ?_)⟩
    · have h1 := of_decide_eq_true h1
      have e1 : voteI s e = 1 := by unfold voteI; rw [if_pos h1]
      rw [e1] at q
      exact q
    have h1 : ¬ e < s := fun z => h1 (decide_eq_true z)
    refine ⟨.int e, rfl, .int s, rfl, _, _, rfl, rfl, _, rfl, ite2 (fun h2 => ?_) (fun h2 => ?_)⟩
    · have h2 := of_decide_eq_true h2
      have e1 : voteI s e = -1 := by unfold voteI; rw [if_neg h1, if_pos h2]
      rw [e1] at q
      exact ⟨1, rfl, q⟩
    · have h2 : ¬ e > s := fun z => h2 (decide_eq_true z)
      have e1 : voteI s e = 0 := by unfold voteI; rw [if_neg h1, if_neg h2]
      rw [e1] at q
      exact q
theorem ok_LV {f : Addr} {fd : FuncData} (F : Fun K "_law_vote" "_law_vote" sLV f fd)
    (m_int : mg "int" = none) :
    FnOk P w K mg base CX0 1 f fd ["_law_option", "_law_other"] spVo := by
  refine F.ok scLV (fun vs H Q E h => ?_) (fun cdv A outer s H vs Q E hr h => ?_)
  · obtain ⟨s, e, rfl, _⟩ := h; rfl
  · obtain ⟨s, e, rfl, q⟩ := h
    refine ⟨_, pss_one (ps_ret (pe_op op_sub (pe_callTy call_int1 (by rfl) m_int (by decide +kernel) (pa_cons (pe_cmpR op_lt (pv 1) (pv 0) (nomark _)) pa_nil)) (pe_callTy call_int1 (by rfl) m_int (by decide +kernel) (pa_cons (pe_cmpR op_gt (pv 1) (pv 0) (nomark _)) pa_nil)))), ?_⟩
    refine ⟨.int e, rfl, .int s, rfl, _, _, rfl, rfl, .inr ⟨_, rfl, .int e, rfl, .int s, rfl, _, _, rfl, rfl, .inr ⟨_, rfl, _, _, rfl, rfl, ?_⟩⟩⟩
    have e1 : voteI s e = (if decide (e < s) = true then 1 else 0) - (if decide (s < e) = true then 1 else 0) := by
      unfold voteI
      by_cases h1 : e < s
      · have h2 : ¬ s < e := by omega
        simp [h1, h2]
      · by_cases h2 : s < e
        · simp [h1, h2]
        · simp [h1, h2]
    rw [e1] at q
    exact q
def spBg (K : PySem.W.Frag) : Sp := fun vs H Q _ => ∃ (s : Int) (a : Addr) (costs : List Int), vs = [.int s, .ref a] ∧ SqL K H a (costs.map V.int) ∧ 0 < costs.length ∧ costs.length ≤ 900 ∧ ∀ H', Same H H' → Q (.int (mx (gains s costs))) H'
theorem ok_Bg {f fVo : Addr} {fd fdVo : FuncData} (F : Fun K "best_gain" "best_gain" sBg f fd)
    (FVo : Fun K "vote" "vote" sVo fVo fdVo) (bVo : Binds K fdVo ["start", "end"] []) (gVo : mg "vote" = some (.ref fVo)) (GVo : FnOk P w K mg base CX0 1 fVo fdVo ["start", "end"] spVo)
    (m_enumerate : mg "enumerate" = none) (m_max : mg "max" = none) :
    FnOk P w K mg base CX0 2 f fd ["start", "costs"] (spBg K) := by
  refine F.ok scBg (fun vs H Q E h => ?_) (fun cdv A outer s H vs Q E hr h => ?_)
  · obtain ⟨s, a, costs, rfl, _⟩ := h; rfl
  · obtain ⟨s, a, costs, rfl, hA, hl0, hl9, q⟩ := h
    refine ⟨_, pss_one (ps_ret (pe_callB (cr_max rfl) (by rfl) m_max (by decide +kernel) (pa_cons (pe_lc (own := [("end", 2), ("cost", 3)]) (g := gTup K 2 (gCons (gName 2) (gCons (gName 3) gNil))) (tt := tYes) (te := tOp (rI0 fun i j => .int (i - j)) (tCall spVo [] E0 (tCons (tVar 0) (tCons (tVar 2) tNil))) (tVar 3)) rfl scBg.nd (pi_enum (by rfl) m_enumerate (pa_cons (pv 1) pa_nil)) (blkOk_by (N := ["start", "costs", "end", "cost"]) (sc := defScope sBg) (by decide +kernel)) (fun _ _ _ _ _ => pg_tup rfl (pgs_cons (pg_name (i := 2) scBg.nd rfl (.inl rfl)) (pgs_cons (pg_name (i := 3) scBg.nd rfl (.inl rfl)) pgs_nil))) (fun _ _ _ _ _ => pts_nil) (fun _ _ _ _ _ => pe_op op_sub (pe_call GVo (hr.mono (by omega)) (by rfl) gVo FVo.kp bVo .nil pass0 (pa_cons (pv 0) (pa_cons (pv 2) pa_nil))) (pv 3))) pa_nil))), ?_⟩
    refine ⟨.ref a, rfl, a, _, rfl, hA, fun D nD => lc_it (walk_enumL (K := K) (a := a) (xs := costs.map V.int))
      (fun j H2 => Same H H2 ∧ H2 D = some (.lst (((gains s costs).take j).map V.int))) ⟨sameNew nD, upd_same⟩ (fun j H2 _ h => h.1.seq hA) ?_ ?_⟩
    · rintro j v H2 H3 hlt ⟨s2, e2⟩ ⟨T, x, y, rfl, nT, rfl, ex, ey⟩
      have hj : j < costs.length := by rw [List.length_map] at hlt; exact hlt
      have ex : some (V.int (j : Nat)) = some x := ex
      cases ex
      have ey : (costs.map V.int)[j]? = some y := ey
      rw [List.getElem?_map, List.getElem?_eq_getElem hj] at ey
      cases ey
      have sT := sameNew (o := .tup [.int (j : Nat), .int costs[j]]) nT
      refine ⟨T, _, rfl, SqT.of upd_same, rfl, _, _, rfl, _, _, rfl, rfl, rfl, .int s, rfl, .int (j : Nat), rfl, s, j, rfl, .int costs[j], rfl, _, _, rfl, rfl, _, sT _ _ e2, ?_, samePut (s2.trans sT) nD, ?_⟩
      · rw [List.length_map, List.length_take]; exact small (by omega)
      · rw [upd_same, gains_snoc hj, List.map_append]
        have : gainAt s costs j = voteI s j - costs[j] := by unfold gainAt; rw [getD_at (List.getElem?_eq_getElem hj)]
        rw [this]; rfl
    rintro H2 ⟨s2, e2⟩
    have hlen : (gains s costs).length = costs.length := by simp [gains]
    rw [List.length_map, List.take_of_length_le (by omega)] at e2
    refine ⟨D, _, rfl, SqL.of e2, by omega, fun m h1 h2 => ?_⟩
    rw [mx_of h1 h2]
    exact q _ s2
def spLim (K : PySem.W.Frag) : Sp := fun vs H Q _ => ∃ (i b c : Addr) (cs : List Int) (gs : List Gp) (rows : List (List Int)) (pr : List Int), vs = [.ref i, .ref b, .ref c] ∧ Dp K H (.ref i) (dInst cs gs) ∧ InsOk cs gs ∧ Dp K H (.ref b) (dAsg rows) ∧ Shp gs rows ∧ Bd rows ∧ SqT K H c (pr.map V.int) ∧ pr.length = cs.length ∧
  ∀ H', Same H H' → Q (.int (limI cs gs rows pr gs.length)) H'
set_option maxHeartbeats 4000000 in
theorem ok_Pl {f fBg : Addr} {fd fdBg : FuncData} (F : Fun K "price_limit" "price_limit" sPl f fd)
    (FBg : Fun K "best_gain" "best_gain" sBg fBg fdBg) (bBg : Binds K fdBg ["start", "costs"] []) (gBg : mg "best_gain" = some (.ref fBg)) (GBg : FnOk P w K mg base CX0 2 fBg fdBg ["start", "costs"] (spBg K))
    (m_zip : mg "zip" = none) (m_sum : mg "sum" = none) (m_enumerate : mg "enumerate" = none) :
    FnOk P w K mg base CX0 3 f fd ["instance", "assignment", "prices"] (spLim K) := by
  refine F.ok scPl (fun vs H Q E h => ?_) (fun cdv A outer s H vs Q E hr h => ?_)
  · obtain ⟨i, b, c, cs, gs, rows, pr, rfl, _⟩ := h; rfl
  · obtain ⟨i, b, c, cs, gs, rows, pr, rfl, hI, ok, hR, sh, bd, hP, lP, q⟩ := h
    refine ⟨_, pss_cons (ps_set (i := 3) scPl.nd rfl (.inl rfl) (pe_callB (cr_sum rfl) (by rfl) m_sum (by decide +kernel) (pa_cons (pe_lc (own := [("capacity", 7), ("price", 8)]) (g := gTup K 2 (gCons (gName 7) (gCons (gName 8) gNil))) (tt := tYes) (te := tOp (rI CMul fun i j => .int (i * j)) (tVar 7) (tVar 8)) rfl scPl.nd (RZ.pi_zipA (by rfl) m_zip (pa_cons (pe_ix ix_tup (pv 0) (pe_int) (fun _ _ => rfl)) (pa_cons (pv 2) pa_nil))) (blkOk_by (N := ["instance", "assignment", "prices", "total", "group", "share", "costs", "capacity", "price", "post", "start", "number"]) (sc := defScope sPl) (by decide +kernel)) (fun _ _ _ _ _ => pg_tup rfl (pgs_cons (pg_name (i := 7) scPl.nd rfl (.inl rfl)) (pgs_cons (pg_name (i := 8) scPl.nd rfl (.inl rfl)) pgs_nil))) (fun _ _ _ _ _ => pts_nil) (fun _ _ _ _ _ => pe_op op_mul (pv 7) (pv 8))) pa_nil)))
      (pss_cons (ps_for PassesOwn.never rfl (RZ.pi_zipA (by rfl) m_zip (pa_cons (pe_ix ix_tup (pv 0) (pe_int) (fun _ _ => rfl)) (pa_cons (pv 1) pa_nil))) (pg_tup rfl (pgs_cons (pg_name (i := 4) scPl.nd rfl (.inl rfl)) (pgs_cons (pg_name (i := 5) scPl.nd rfl (.inl rfl)) pgs_nil)))
        (pss_cons (ps_set (i := 6) scPl.nd rfl (.inr rfl) (pe_op op_cat (pe_lc (own := [("post", 9)]) (g := gName 9) (tt := tYes) (te := tOp (rIxT K) (tVar 2) (tVar 9)) rfl scPl.nd (pi_tup (pe_ix ix_tup (pv 4) (pe_int) (fun _ _ => rfl))) (blkOk_by (N := ["instance", "assignment", "prices", "total", "group", "share", "costs", "capacity", "price", "post", "start", "number"]) (sc := defScope sPl) (by decide +kernel)) (fun _ _ _ _ _ => pg_name (i := 9) scPl.nd rfl (.inl rfl)) (fun _ _ _ _ _ => pts_nil) (fun _ _ _ _ _ => pe_ix ix_tup (pv 2) (pv 9) (fun _ _ => rfl))) (pe_lst (pa_cons (pe_int) pa_nil))))
        (pss_one (ps_aug (i := 3) scPl.nd rfl (.inl rfl) (pe_callB (cr_sum rfl) (by rfl) m_sum (by decide +kernel) (pa_cons (pe_lc (own := [("start", 10), ("number", 11)]) (g := gTup K 2 (gCons (gName 10) (gCons (gName 11) gNil))) (tt := tYes) (te := tOp (rI CMul fun i j => .int (i * j)) (tVar 11) (tCall (spBg K) [] E0 (tCons (tVar 10) (tCons (tVar 6) tNil)))) rfl scPl.nd (pi_enumT (by rfl) m_enumerate (pa_cons (pv 5) pa_nil)) (blkOk_by (N := ["instance", "assignment", "prices", "total", "group", "share", "costs", "capacity", "price", "post", "start", "number"]) (sc := defScope sPl) (by decide +kernel)) (fun _ _ _ _ _ => pg_tup rfl (pgs_cons (pg_name (i := 10) scPl.nd rfl (.inl rfl)) (pgs_cons (pg_name (i := 11) scPl.nd rfl (.inl rfl)) pgs_nil))) (fun _ _ _ _ _ => pts_nil) (fun _ _ _ _ _ => pe_op op_mul (pv 11) (pe_call GBg (hr.mono (by omega)) (by rfl) gBg FBg.kp bBg .nil pass0 (pa_cons (pv 10) (pa_cons (pv 6) pa_nil))))) pa_nil)) ip_add))))
      (pss_one (ps_ret (pv 3)))), ?_⟩
    obtain ⟨_, ca, ga, xs, e, hi, hc, hgt, hgs⟩ := inst_open hI
    cases e
    have lx := DpAll.len hgs
    rw [List.length_map] at lx
    have h6 := ok.c6
    have h10 := ok.g10
    obtain ⟨_, ys, e, hB, hys⟩ : ∃ b' ys, V.ref b = .ref b' ∧ SqT K H b' ys ∧ DpAll K H ys (rows.map dI) := by
      cases hR with
      | tup h1 h2 => exact ⟨_, _, rfl, h1, h2⟩
    cases e
    have ly := DpAll.len hys
    rw [List.length_map] at ly
    have cb : ∀ (k : Nat) (x : Int), cs[k]? = some x → 1 ≤ x ∧ x ≤ 10 ^ 12 := fun k x hx => ok.cb x (List.mem_of_getElem? hx)
    refine ⟨.ref i, rfl, i, _, 0, .ref ca, rfl, rfl, hi, atI_nat (j := 0) rfl, .ref c, rfl, ca, c, _, _, rfl, .inr ⟨hc, hP, fun D nD => lc_it (walk_zipT (K := K) (a := ca) (b := c) (xs := cs.map V.int) (ys := pr.map V.int) rfl)
      (fun j H2 => Same H H2 ∧ H2 D = some (.lst (((List.range j).map fun j => cs.getD j 0 * pr.getD j 0).map V.int))) ⟨sameNew nD, upd_same⟩ (fun j H2 _ h => ⟨(TupK.of h.1).sq hc, (TupK.of h.1).sq hP⟩) ?_ ?_⟩⟩
    · rintro j v H2 H3 hlt ⟨s2, e2⟩ ⟨T, x, y, rfl, nT, rfl, ex, ey⟩
      rw [List.length_map, List.length_map] at hlt
      have hj1 : j < cs.length := by omega
      have hj2 : j < pr.length := by omega
      have ex : (cs.map V.int)[j]? = some x := ex
      have ey : (pr.map V.int)[j]? = some y := ey
      rw [List.getElem?_map, List.getElem?_eq_getElem hj1] at ex
      rw [List.getElem?_map, List.getElem?_eq_getElem hj2] at ey
      cases ex
      cases ey
      have hcb := cb j cs[j] (List.getElem?_eq_getElem hj1)
      have sT := sameNew (o := .tup [.int cs[j], .int pr[j]]) nT
      refine ⟨T, _, rfl, SqT.of upd_same, rfl, _, _, rfl, _, _, rfl, rfl, rfl, .int cs[j], rfl, .int pr[j], rfl, _, _, rfl, rfl, .inl ⟨by omega, by omega⟩, _, sT _ _ e2, ?_, samePut (s2.trans sT) nD, ?_⟩
      · rw [List.length_map, List.length_map, List.length_range]; exact small (by omega)
      · rw [upd_same, List.range_succ, List.map_append, List.map_append]
        simp [List.getD_eq_getElem?_getD, List.getElem?_eq_getElem hj1, List.getElem?_eq_getElem hj2]
    rintro H2 ⟨s2, e2⟩
    rw [List.length_map, List.length_map] at e2
    refine ⟨D, _, rfl, SqL.of e2, ?_⟩
    have hcap : (((List.range (min cs.length pr.length)).map fun j => cs.getD j 0 * pr.getD j 0).sum) = limI cs gs rows pr 0 := by simp [limI, capLim]
    rw [hcap]
    have hrl := sh.1
    refine ⟨.ref i, rfl, i, _, 1, .ref ga, rfl, rfl, (TupK.of s2).sq hi, atI_nat (j := 1) rfl, .ref b, rfl, ga, b, _, _, rfl, .inr ⟨(TupK.of s2).sq hgt, (TupK.of s2).sq hB, for_it (walk_zipT (K := K) (a := ga) (b := b) (xs := xs) (ys := ys) rfl)
      (fun j σ H3 => ∃ y4 y5 y6, σ = [some (.ref i), some (.ref b), some (.ref c), some (.int (limI cs gs rows pr j)), y4, y5, y6, none, none, none, none, none] ∧ Same H H3) ⟨none, none, none, rfl, s2⟩ (fun j σ H3 _ h => by obtain ⟨y4, y5, y6, rfl, s3⟩ := h; exact ⟨(TupK.of s3).sq hgt, (TupK.of s3).sq hB⟩) ?_ ?_⟩⟩
    · rintro j v σ H3 H4 hlt ⟨y4, y5, y6, rfl, s3⟩ ⟨T, x, y, rfl, nT, rfl, ex, ey⟩
      have hj1 : j < gs.length := by omega
      have hj2 : j < rows.length := by omega
      have hg : gs[j]? = some gs[j] := List.getElem?_eq_getElem hj1
      have hr' : rows[j]? = some rows[j] := List.getElem?_eq_getElem hj2
      have ex : xs[j]? = some x := ex
      have ey : ys[j]? = some y := ey
      obtain ⟨d, hd, hxd⟩ := DpAll.at hgs ex
      rw [List.getElem?_map, hg] at hd
      cases hd
      obtain ⟨d, hd, hyd⟩ := DpAll.at hys ey
      rw [List.getElem?_map, hr'] at hd
      cases hd
      obtain ⟨gA, pA, rfl, hG, hPA⟩ := grp_ref hxd
      obtain ⟨rA, rfl, hRA⟩ := dI_ref hyd
      have hrow := sh.2 j gs[j] rows[j] hg hr'
      obtain ⟨gl6, gpr, gc1, gc2⟩ := ok.gp gs[j] (List.getElem_mem hj1)
      have bdr := bd rows[j] (List.getElem_mem hj2)
      have sT := sameNew (o := .tup [.ref gA, .ref rA]) nT
      have s4 := s3.trans sT
      have tk4 := TupK.of s4
      refine ⟨T, _, rfl, SqT.of upd_same, rfl, _, _, rfl, _, _, rfl, rfl, ?_⟩
      refine ⟨.ref gA, rfl, gA, _, 0, .ref pA, rfl, rfl, tk4.sq hG, atI_nat (j := 0) rfl, pA, rfl, ⟨_, tk4.sq hPA⟩, fun D nD => ?_⟩
      generalize upd H3 T (.tup [.ref gA, .ref rA]) = H5 at sT s4 tk4 nD
      refine lc_it (walk_tup (K := K) (a := pA) (xs := gs[j].1.map V.int))
        (fun m H6 => Same H5 H6 ∧ H6 D = some (.lst (((gs[j].1.map (prAt pr)).take m).map V.int))) ⟨sameNew nD, upd_same⟩ (fun m H6 _ h => (tk4.trans (TupK.of h.1)).sq hPA) ?_ ?_
      · rintro m v H6 H7 hltm ⟨s6, e6⟩ ⟨rfl, hv⟩
        have hv' : (gs[j].1.map V.int)[m]? = some v := hv
        rw [List.getElem?_map] at hv'
        obtain ⟨pp, hpp, rfl⟩ := Option.map_eq_some_iff.mp hv'
        have hpr := gpr pp (List.mem_of_getElem? hpp)
        obtain ⟨pn, rfl⟩ : ∃ pn : Nat, pp = pn := ⟨pp.toNat, by omega⟩
        have hpl : pn < pr.length := by omega
        have hpv : (pr.map V.int)[pn]? = some (.int pr[pn]) := by rw [List.getElem?_map, List.getElem?_eq_getElem hpl]; rfl
        have hm6 : m < 6 := by have := (List.getElem?_eq_some_iff.mp hpp).1; omega
        refine ⟨rfl, .ref c, rfl, .int pn, rfl, c, _, _, _, rfl, rfl, (tk4.trans (TupK.of s6)).sq hP, atI_nat hpv, _, e6, ?_, samePut s6 nD, ?_⟩
        · rw [List.length_map, List.length_take]; exact small (by omega)
        · have hq : (gs[j].1.map (prAt pr))[m]? = some pr[pn] := by rw [List.getElem?_map, hpp]; simp [prAt, List.getD_eq_getElem?_getD, List.getElem?_eq_getElem hpl]
          rw [upd_same, take_snoc hq, List.map_append]; rfl
      rintro H6 ⟨s6, e6⟩
      rw [List.length_map, List.take_of_length_le (by rw [List.length_map]; exact Nat.le_refl _)] at e6
      refine ⟨(show (1 : Nat) ≤ sizeLine by decide), fun p1 n1 => ⟨D, p1, _, _, rfl, rfl, upNew n1 e6, upd_same, ?_, fun Co nCo => ?_⟩⟩
      · rw [List.length_map, List.length_map]; have := small (n := gs[j].1.length + 1) (by omega); simp; omega
      have s7 := (sameNew (o := .lst [.int 0]) n1).trans (sameNew (o := .lst ((gs[j].1.map (prAt pr)).map V.int ++ [.int 0])) nCo)
      have eC : (upd (upd H6 p1 (.lst [.int 0])) Co (.lst ((gs[j].1.map (prAt pr)).map V.int ++ [.int 0]))) Co = some (.lst ((costsOf pr gs[j].1).map V.int)) := by rw [upd_same, costsOf, List.map_append]; rfl
      generalize upd (upd H6 p1 (.lst [.int 0])) Co (.lst ((gs[j].1.map (prAt pr)).map V.int ++ [.int 0])) = H8 at s7 eC
      have s8 := (s4.trans s6).trans s7
      have lC : (costsOf pr gs[j].1).length = gs[j].1.length + 1 := by simp [costsOf]
      have estep : limI cs gs rows pr (j + 1) = limI cs gs rows pr j + rowLim (costsOf pr gs[j].1) rows[j] := by rw [lim_snoc, getD_at hg, getD_at hr']
      refine ⟨_, rfl, .ref rA, rfl, rA, _, rfl, (TupK.of s8).sq hRA, fun D2 nD2 => lc_it (walk_enumT (K := K) (a := rA) (xs := rows[j].map V.int))
        (fun m H9 => Same H8 H9 ∧ H9 D2 = some (.lst (((List.range m).map (partAt (costsOf pr gs[j].1) rows[j])).map V.int))) ⟨sameNew nD2, upd_same⟩ (fun m H9 _ h => (TupK.of (s8.trans h.1)).sq hRA) ?_ ?_⟩
      · rintro m v H9 H10 hltm ⟨s9, e9⟩ ⟨T2, x2, y2, rfl, nT2, rfl, ex2, ey2⟩
        rw [List.length_map] at hltm
        have ex2 : some (V.int (m : Nat)) = some x2 := ex2
        cases ex2
        have ey2 : (rows[j].map V.int)[m]? = some y2 := ey2
        rw [List.getElem?_map, List.getElem?_eq_getElem hltm] at ey2
        cases ey2
        have bx := bdr _ (List.getElem_mem hltm)
        have sT2 := sameNew (o := .tup [.int (m : Nat), .int rows[j][m]]) nT2
        refine ⟨T2, _, rfl, SqT.of upd_same, rfl, _, _, rfl, _, _, rfl, rfl, rfl, .int rows[j][m], rfl, .int (m : Nat), rfl, .ref Co, rfl, m, Co, costsOf pr gs[j].1, rfl, SqL.of ((s9.trans sT2) _ _ eC), by omega, by omega, fun H11 s11 => ?_⟩
        have e11 := (sT2.trans s11) _ _ e9
        refine ⟨_, _, rfl, rfl, .inl ⟨by omega, by omega⟩, _, e11, ?_, samePut ((s9.trans sT2).trans s11) nD2, ?_⟩
        · rw [List.length_map, List.length_map, List.length_range]; exact small (by omega)
        · rw [upd_same, List.range_succ, List.map_append, List.map_append]
          have : partAt (costsOf pr gs[j].1) rows[j] m = rows[j][m] * mx (gains m (costsOf pr gs[j].1)) := by unfold partAt; rw [getD_at (List.getElem?_eq_getElem hltm)]
          simp [this]
      rintro H9 ⟨s9, e9⟩
      rw [List.length_map] at e9
      refine ⟨D2, _, rfl, SqL.of e9, _, _, rfl, rfl, ?_⟩
      refine ⟨some (.ref gA), some (.ref rA), some (.ref Co), ?_, s8.trans s9⟩
      rw [estep]
      rfl
    rintro σ H3 ⟨y4, y5, y6, rfl, s3⟩
    refine ⟨_, rfl, ?_⟩
    have hmin : min xs.length ys.length = gs.length := by omega
    rw [hmin]
    exact q _ s3
set_option maxHeartbeats 4000000 in
theorem ok_LL {f fLV : Addr} {fd fdLV : FuncData} (F : Fun K "_law_limit" "_law_limit" sLL f fd)
    (FLV : Fun K "_law_vote" "_law_vote" sLV fLV fdLV) (bLV : Binds K fdLV ["_law_option", "_law_other"] []) (gLV : mg "_law_vote" = some (.ref fLV)) (GLV : FnOk P w K mg base CX0 1 fLV fdLV ["_law_option", "_law_other"] spVo)
    (m_zip : mg "zip" = none) (m_sum : mg "sum" = none) (m_enumerate : mg "enumerate" = none) (m_len : mg "len" = none) (m_range : mg "range" = none) (m_max : mg "max" = none) :
    FnOk P w K mg base CX0 2 f fd ["_law_instance", "_law_assignment_here", "_law_prices"] (spLim K) := by
  refine F.ok scLL (fun vs H Q E h => ?_) (fun cdv A outer s H vs Q E hr h => ?_)
  · obtain ⟨i, b, c, cs, gs, rows, pr, rfl, _⟩ := h; rfl
  · obtain ⟨i, b, c, cs, gs, rows, pr, rfl, hI, ok, hR, sh, bd, hP, lP, q⟩ := h
    refine ⟨_, pss_cons (ps_set (i := 3) scLL.nd rfl (.inl rfl) (pe_callB (cr_sum rfl) (by rfl) m_sum (by decide +kernel) (pa_cons (pe_lc (own := [("_law_capacity", 10), ("_law_price", 11)]) (g := gTup K 2 (gCons (gName 10) (gCons (gName 11) gNil))) (tt := tYes) (te := tOp (rI CMul fun i j => .int (i * j)) (tVar 10) (tVar 11)) rfl scLL.nd (RZ.pi_zipA (by rfl) m_zip (pa_cons (pe_ix ix_tup (pv 0) (pe_int) (fun _ _ => rfl)) (pa_cons (pv 2) pa_nil))) (blkOk_by (N := ["_law_instance", "_law_assignment_here", "_law_prices", "_law_total", "_law_posts", "_law_count", "_law_numbers", "_law_costs", "_law_option", "_law_number", "_law_capacity", "_law_price", "_law_post", "_law_k"]) (sc := defScope sLL) (by decide +kernel)) (fun _ _ _ _ _ => pg_tup rfl (pgs_cons (pg_name (i := 10) scLL.nd rfl (.inl rfl)) (pgs_cons (pg_name (i := 11) scLL.nd rfl (.inl rfl)) pgs_nil))) (fun _ _ _ _ _ => pts_nil) (fun _ _ _ _ _ => pe_op op_mul (pv 10) (pv 11))) pa_nil)))
      (pss_cons (ps_for PassesOwn.never rfl (RZ.pi_zipA (by rfl) m_zip (pa_cons (pe_ix ix_tup (pv 0) (pe_int) (fun _ _ => rfl)) (pa_cons (pv 1) pa_nil))) (pg_tup rfl (pgs_cons (pg_tup rfl (pgs_cons (pg_name (i := 4) scLL.nd rfl (.inl rfl)) (pgs_cons (pg_name (i := 5) scLL.nd rfl (.inl rfl)) pgs_nil))) (pgs_cons (pg_name (i := 6) scLL.nd rfl (.inl rfl)) pgs_nil)))
        (pss_cons (ps_set (i := 7) scLL.nd rfl (.inr rfl) (pe_op op_cat (pe_lc (own := [("_law_post", 12)]) (g := gName 12) (tt := tYes) (te := tOp (rIxT K) (tVar 2) (tVar 12)) rfl scLL.nd (pi_tup (pv 4)) (blkOk_by (N := ["_law_instance", "_law_assignment_here", "_law_prices", "_law_total", "_law_posts", "_law_count", "_law_numbers", "_law_costs", "_law_option", "_law_number", "_law_capacity", "_law_price", "_law_post", "_law_k"]) (sc := defScope sLL) (by decide +kernel)) (fun _ _ _ _ _ => pg_name (i := 12) scLL.nd rfl (.inl rfl)) (fun _ _ _ _ _ => pts_nil) (fun _ _ _ _ _ => pe_ix ix_tup (pv 2) (pv 12) (fun _ _ => rfl))) (pe_lst (pa_cons (pe_int) pa_nil))))
        (pss_one (ps_for PassesOwn.never rfl (pi_enumT (by rfl) m_enumerate (pa_cons (pv 6) pa_nil)) (pg_tup rfl (pgs_cons (pg_name (i := 8) scLL.nd rfl (.inr rfl)) (pgs_cons (pg_name (i := 9) scLL.nd rfl (.inl rfl)) pgs_nil)))
          (pss_one (ps_set (i := 3) scLL.nd rfl (.inl rfl) (pe_op op_add (pv 3) (pe_op op_mul (pv 9) (pe_callB (cr_max rfl) (by rfl) m_max (by decide +kernel) (pa_cons (pe_lc (own := [("_law_k", 13)]) (g := gName 13) (tt := tYes) (te := tOp (rI0 fun i j => .int (i - j)) (tCall spVo [] E0 (tCons (tVar 8) (tCons (tVar 13) tNil))) (tOp (rIxL K) (tVar 7) (tVar 13))) rfl scLL.nd (pi_range1 (by rfl) m_range (pa_cons (pe_callB call_lenQ (by rfl) m_len PySem.boot_len (pa_cons (pv 7) pa_nil)) pa_nil)) (blkOk_by (N := ["_law_instance", "_law_assignment_here", "_law_prices", "_law_total", "_law_posts", "_law_count", "_law_numbers", "_law_costs", "_law_option", "_law_number", "_law_capacity", "_law_price", "_law_post", "_law_k"]) (sc := defScope sLL) (by decide +kernel)) (fun _ _ _ _ _ => pg_name (i := 13) scLL.nd rfl (.inl rfl)) (fun _ _ _ _ _ => pts_nil) (fun _ _ _ _ _ => pe_op op_sub (pe_call GLV (hr.mono (by omega)) (by rfl) gLV FLV.kp bLV .nil pass0 (pa_cons (pv 8) (pa_cons (pv 13) pa_nil))) (pe_ix ix_list (pv 7) (pv 13) (fun _ _ => rfl)))) pa_nil))))))))))
      (pss_one (ps_ret (pv 3)))), ?_⟩
    obtain ⟨_, ca, ga, xs, e, hi, hc, hgt, hgs⟩ := inst_open hI
    cases e
    have lx := DpAll.len hgs
    rw [List.length_map] at lx
    have h6 := ok.c6
    have h10 := ok.g10
    obtain ⟨_, ys, e, hB, hys⟩ : ∃ b' ys, V.ref b = .ref b' ∧ SqT K H b' ys ∧ DpAll K H ys (rows.map dI) := by
      cases hR with
      | tup h1 h2 => exact ⟨_, _, rfl, h1, h2⟩
    cases e
    have ly := DpAll.len hys
    rw [List.length_map] at ly
    have cb : ∀ (k : Nat) (x : Int), cs[k]? = some x → 1 ≤ x ∧ x ≤ 10 ^ 12 := fun k x hx => ok.cb x (List.mem_of_getElem? hx)
    refine ⟨.ref i, rfl, i, _, 0, .ref ca, rfl, rfl, hi, atI_nat (j := 0) rfl, .ref c, rfl, ca, c, _, _, rfl, .inr ⟨hc, hP, fun D nD => lc_it (walk_zipT (K := K) (a := ca) (b := c) (xs := cs.map V.int) (ys := pr.map V.int) rfl)
      (fun j H2 => Same H H2 ∧ H2 D = some (.lst (((List.range j).map fun j => cs.getD j 0 * pr.getD j 0).map V.int))) ⟨sameNew nD, upd_same⟩ (fun j H2 _ h => ⟨(TupK.of h.1).sq hc, (TupK.of h.1).sq hP⟩) ?_ ?_⟩⟩
    · rintro j v H2 H3 hlt ⟨s2, e2⟩ ⟨T, x, y, rfl, nT, rfl, ex, ey⟩
      rw [List.length_map, List.length_map] at hlt
      have hj1 : j < cs.length := by omega
      have hj2 : j < pr.length := by omega
      have ex : (cs.map V.int)[j]? = some x := ex
      have ey : (pr.map V.int)[j]? = some y := ey
      rw [List.getElem?_map, List.getElem?_eq_getElem hj1] at ex
      rw [List.getElem?_map, List.getElem?_eq_getElem hj2] at ey
      cases ex
      cases ey
      have hcb := cb j cs[j] (List.getElem?_eq_getElem hj1)
      have sT := sameNew (o := .tup [.int cs[j], .int pr[j]]) nT
      refine ⟨T, _, rfl, SqT.of upd_same, rfl, _, _, rfl, _, _, rfl, rfl, rfl, .int cs[j], rfl, .int pr[j], rfl, _, _, rfl, rfl, .inl ⟨by omega, by omega⟩, _, sT _ _ e2, ?_, samePut (s2.trans sT) nD, ?_⟩
      · rw [List.length_map, List.length_map, List.length_range]; exact small (by omega)
      · rw [upd_same, List.range_succ, List.map_append, List.map_append]
        simp [List.getD_eq_getElem?_getD, List.getElem?_eq_getElem hj1, List.getElem?_eq_getElem hj2]
    rintro H2 ⟨s2, e2⟩
    rw [List.length_map, List.length_map] at e2
    refine ⟨D, _, rfl, SqL.of e2, ?_⟩
    have hcap : (((List.range (min cs.length pr.length)).map fun j => cs.getD j 0 * pr.getD j 0).sum) = limI cs gs rows pr 0 := by simp [limI, capLim]
    rw [hcap]
    have hrl := sh.1
    refine ⟨.ref i, rfl, i, _, 1, .ref ga, rfl, rfl, (TupK.of s2).sq hi, atI_nat (j := 1) rfl, .ref b, rfl, ga, b, _, _, rfl, .inr ⟨(TupK.of s2).sq hgt, (TupK.of s2).sq hB, for_it (walk_zipT (K := K) (a := ga) (b := b) (xs := xs) (ys := ys) rfl)
      (fun j σ H3 => ∃ y4 y5 y6 y7 y8 y9, σ = [some (.ref i), some (.ref b), some (.ref c), some (.int (limI cs gs rows pr j)), y4, y5, y6, y7, y8, y9, none, none, none, none] ∧ Same H H3) ⟨none, none, none, none, none, none, rfl, s2⟩ (fun j σ H3 _ h => by obtain ⟨y4, y5, y6, y7, y8, y9, rfl, s3⟩ := h; exact ⟨(TupK.of s3).sq hgt, (TupK.of s3).sq hB⟩) ?_ ?_⟩⟩
    · rintro j v σ H3 H4 hlt ⟨y4, y5, y6, y7, y8, y9, rfl, s3⟩ ⟨T, x, y, rfl, nT, rfl, ex, ey⟩
      have hj1 : j < gs.length := by omega
      have hj2 : j < rows.length := by omega
      have hg : gs[j]? = some gs[j] := List.getElem?_eq_getElem hj1
      have hr' : rows[j]? = some rows[j] := List.getElem?_eq_getElem hj2
      have ex : xs[j]? = some x := ex
      have ey : ys[j]? = some y := ey
      obtain ⟨d, hd, hxd⟩ := DpAll.at hgs ex
      rw [List.getElem?_map, hg] at hd
      cases hd
      obtain ⟨d, hd, hyd⟩ := DpAll.at hys ey
      rw [List.getElem?_map, hr'] at hd
      cases hd
      obtain ⟨gA, pA, rfl, hG, hPA⟩ := grp_ref hxd
      obtain ⟨rA, rfl, hRA⟩ := dI_ref hyd
      have hrow := sh.2 j gs[j] rows[j] hg hr'
      obtain ⟨gl6, gpr, gc1, gc2⟩ := ok.gp gs[j] (List.getElem_mem hj1)
      have bdr := bd rows[j] (List.getElem_mem hj2)
      have sT := sameNew (o := .tup [.ref gA, .ref rA]) nT
      have s4 := s3.trans sT
      have tk4 := TupK.of s4
      refine ⟨T, _, rfl, SqT.of upd_same, rfl, _, _, rfl, gA, _, rfl, tk4.sq hG, rfl, _, _, rfl, _, _, rfl, rfl, _, _, rfl, rfl, ?_⟩
      refine ⟨.ref pA, rfl, pA, rfl, ⟨_, tk4.sq hPA⟩, fun D nD => ?_⟩
      generalize upd H3 T (.tup [.ref gA, .ref rA]) = H5 at sT s4 tk4 nD
      refine lc_it (walk_tup (K := K) (a := pA) (xs := gs[j].1.map V.int))
        (fun m H6 => Same H5 H6 ∧ H6 D = some (.lst (((gs[j].1.map (prAt pr)).take m).map V.int))) ⟨sameNew nD, upd_same⟩ (fun m H6 _ h => (tk4.trans (TupK.of h.1)).sq hPA) ?_ ?_
      · rintro m v H6 H7 hltm ⟨s6, e6⟩ ⟨rfl, hv⟩
        have hv' : (gs[j].1.map V.int)[m]? = some v := hv
        rw [List.getElem?_map] at hv'
        obtain ⟨pp, hpp, rfl⟩ := Option.map_eq_some_iff.mp hv'
        have hpr := gpr pp (List.mem_of_getElem? hpp)
        obtain ⟨pn, rfl⟩ : ∃ pn : Nat, pp = pn := ⟨pp.toNat, by omega⟩
        have hpl : pn < pr.length := by omega
        have hpv : (pr.map V.int)[pn]? = some (.int pr[pn]) := by rw [List.getElem?_map, List.getElem?_eq_getElem hpl]; rfl
        have hm6 : m < 6 := by have := (List.getElem?_eq_some_iff.mp hpp).1; omega
        refine ⟨rfl, .ref c, rfl, .int pn, rfl, c, _, _, _, rfl, rfl, (tk4.trans (TupK.of s6)).sq hP, atI_nat hpv, _, e6, ?_, samePut s6 nD, ?_⟩
        · rw [List.length_map, List.length_take]; exact small (by omega)
        · have hq : (gs[j].1.map (prAt pr))[m]? = some pr[pn] := by rw [List.getElem?_map, hpp]; simp [prAt, List.getD_eq_getElem?_getD, List.getElem?_eq_getElem hpl]
          rw [upd_same, take_snoc hq, List.map_append]; rfl
      rintro H6 ⟨s6, e6⟩
      rw [List.length_map, List.take_of_length_le (by rw [List.length_map]; exact Nat.le_refl _)] at e6
      refine ⟨(show (1 : Nat) ≤ sizeLine by decide), fun p1 n1 => ⟨D, p1, _, _, rfl, rfl, upNew n1 e6, upd_same, ?_, fun Co nCo => ?_⟩⟩
      · rw [List.length_map, List.length_map]; have := small (n := gs[j].1.length + 1) (by omega); simp; omega
      have s7 := (sameNew (o := .lst [.int 0]) n1).trans (sameNew (o := .lst ((gs[j].1.map (prAt pr)).map V.int ++ [.int 0])) nCo)
      have eC : (upd (upd H6 p1 (.lst [.int 0])) Co (.lst ((gs[j].1.map (prAt pr)).map V.int ++ [.int 0]))) Co = some (.lst ((costsOf pr gs[j].1).map V.int)) := by rw [upd_same, costsOf, List.map_append]; rfl
      generalize upd (upd H6 p1 (.lst [.int 0])) Co (.lst ((gs[j].1.map (prAt pr)).map V.int ++ [.int 0])) = H8 at s7 eC
      have s8 := (s4.trans s6).trans s7
      have lC : (costsOf pr gs[j].1).length = gs[j].1.length + 1 := by simp [costsOf]
      have estep : limI cs gs rows pr (j + 1) = limI cs gs rows pr j + rowLim (costsOf pr gs[j].1) rows[j] := by rw [lim_snoc, getD_at hg, getD_at hr']
      have lsum : ∀ m, ((List.range (m + 1)).map (partAt (costsOf pr gs[j].1) rows[j])).sum = ((List.range m).map (partAt (costsOf pr gs[j].1) rows[j])).sum + partAt (costsOf pr gs[j].1) rows[j] m := fun m => by rw [List.range_succ, List.map_append, List.sum_append]; simp
      refine ⟨.ref rA, rfl, rA, _, rfl, (TupK.of s8).sq hRA, for_it (walk_enumT (K := K) (a := rA) (xs := rows[j].map V.int))
        (fun m σ H9 => ∃ z8 z9, σ = [some (.ref i), some (.ref b), some (.ref c), some (.int (limI cs gs rows pr j + ((List.range m).map (partAt (costsOf pr gs[j].1) rows[j])).sum)), some (.ref pA), some (.int gs[j].2), some (.ref rA), some (.ref Co), z8, z9, none, none, none, none] ∧ Same H8 H9)
        ⟨y8, y9, by simp, Same.refl _⟩ (fun m σ H9 _ h => by obtain ⟨_, _, _, s9⟩ := h; exact (TupK.of (s8.trans s9)).sq hRA) ?_ ?_⟩
      · rintro m v σ H9 H10 hltm ⟨z8, z9, rfl, s9⟩ ⟨T2, x2, y2, rfl, nT2, rfl, ex2, ey2⟩
        rw [List.length_map] at hltm
        have ex2 : some (V.int (m : Nat)) = some x2 := ex2
        cases ex2
        have ey2 : (rows[j].map V.int)[m]? = some y2 := ey2
        rw [List.getElem?_map, List.getElem?_eq_getElem hltm] at ey2
        cases ey2
        have bx := bdr _ (List.getElem_mem hltm)
        have sT2 := sameNew (o := .tup [.int (m : Nat), .int rows[j][m]]) nT2
        have s10 := s9.trans sT2
        have eC10 := s10 _ _ eC
        refine ⟨T2, _, rfl, SqT.of upd_same, rfl, _, _, rfl, _, _, rfl, rfl, ?_⟩
        refine ⟨_, rfl, .int rows[j][m], rfl, .ref Co, rfl, Co, _, rfl, .inl (SqL.of eC10), _, rfl, by omega, by rw [List.length_map]; omega, fun D2 nD2 => lc_it (walk_range (lo := 0) (n := (((costsOf pr gs[j].1).map V.int).length : Int).toNat))
          (fun k H11 => Same (upd H9 T2 (.tup [.int (m : Nat), .int rows[j][m]])) H11 ∧ H11 D2 = some (.lst (((gains m (costsOf pr gs[j].1)).take k).map V.int))) ⟨sameNew nD2, upd_same⟩ (fun _ _ _ _ => trivial) ?_ ?_⟩
        · rintro k v H11 H12 hltk ⟨s11, e11⟩ ⟨rfl, rfl⟩
          rw [List.length_map] at hltk
          have hk : k < (costsOf pr gs[j].1).length := by omega
          have hkv : ((costsOf pr gs[j].1).map V.int)[k]? = some (.int (costsOf pr gs[j].1)[k]) := by rw [List.getElem?_map, List.getElem?_eq_getElem hk]; rfl
          have e0 : (0 : Int) + (k : Nat) = (k : Nat) := by omega
          dsimp only
          rw [e0]
          refine ⟨rfl, .int (m : Nat), rfl, .int (k : Nat), rfl, m, k, rfl, .ref Co, rfl, .int (k : Nat), rfl, Co, _, _, _, rfl, rfl, SqL.of (s11 _ _ eC10), atI_nat hkv, _, _, rfl, rfl, _, e11, ?_, samePut s11 nD2, ?_⟩
          · rw [List.length_map, List.length_take]; exact small (by omega)
          · rw [upd_same, gains_snoc hk, List.map_append]
            have : gainAt m (costsOf pr gs[j].1) k = voteI m k - (costsOf pr gs[j].1)[k] := by unfold gainAt; rw [getD_at (List.getElem?_eq_getElem hk)]
            rw [this]; rfl
        rintro H11 ⟨s11, e11⟩
        have hgl : (gains m (costsOf pr gs[j].1)).length = (costsOf pr gs[j].1).length := by simp [gains]
        rw [List.length_map, List.take_of_length_le (by omega)] at e11
        refine ⟨D2, _, rfl, SqL.of e11, by omega, fun mm h1 h2 => ?_⟩
        refine ⟨_, _, rfl, rfl, .inl ⟨by omega, by omega⟩, _, _, rfl, rfl, ?_⟩
        refine ⟨some (.int (m : Nat)), some (.int rows[j][m]), ?_, s10.trans s11⟩
        have hp : partAt (costsOf pr gs[j].1) rows[j] m = rows[j][m] * mm := by unfold partAt; rw [getD_at (List.getElem?_eq_getElem hltm), mx_of h1 h2]
        rw [lsum, hp, ← Int.add_assoc]
        rfl
      rintro σ H9 ⟨z8, z9, rfl, s9⟩
      rw [List.length_map]
      refine ⟨some (.ref pA), some (.int gs[j].2), some (.ref rA), some (.ref Co), z8, z9, ?_, s8.trans s9⟩
      rw [estep]
      rfl
    rintro σ H3 ⟨y4, y5, y6, y7, y8, y9, rfl, s3⟩
    refine ⟨_, rfl, ?_⟩
    have hmin : min xs.length ys.length = gs.length := by omega
    rw [hmin]
    exact q _ s3
end
end Pv

set_option maxHeartbeats 1000000
namespace DT
open PySem PySem.W PySem.Calls PyProof.Rows PyProof.V PySem.Spec
/-! tuple(d.items()) -/
section
variable {prog : Program} {w : World} {A : Around} {E : Value → Shared → Prop} {s : Shared} {r d : Addr} {es : Array DictEntry} {ep : Nat}
theorem code_tuple_new_items {Q₁ : Value → Shared → Prop} (hh : A.handled = none) (hv : s.heap.IsItemsView r d) (hm : Raw s.heap d es ep) (hn : es.size ≤ sizeLine)
    (h : ∀ (h' : Heap) (tk : Nat) (as : List Addr), (∀ b o, s.heap.get? b = some o → h'.get? b = some o) → s.heap.objs.size < h'.objs.size → as.length = es.size → Made es s.heap.objs.size h' as →
      Q₁ (.ref h'.objs.size) { s with heap := h'.push { cls := .type "tuple", data := .seq (as.map Value.ref).toArray }, toks := tk }) :
    codeAny (model prog w) A (.call (.builtin "tuple.__new__") ⟨[.type "tuple", .ref r], []⟩) (wants Q₁ E) s := by
  refine codeAny_of_tree ?_
  show wpAny _ A.in1 (do checkBuiltinCall "tuple.__new__" ⟨[.type "tuple", .ref r], []⟩; again (.builtin "tuple.__new__" ⟨[.type "tuple", .ref r], []⟩)) _ _ s
  refine wpAny_bind (wpAny_of_eq (F.newCall_tuple_1 _) (wpAny_pure ⟨plainId_quiet F.plain_tuple_new _, codeAny_builtin F.entry_tuple_new ?_⟩))
  rw [Around.under_plainId F.plain_tuple_new _]
  have hsub := sub_tuple_self
  have hinit := init_tuple_lookup
  have hmh := madeHere_tuple
  have hTI : s.TypeIs (.ref r) "dict_items" := hv.typeIs
  have hh1 : A.in1.handled = none := hh
  wp_walk using wpAny_typeOf hTI, collectI (A := A.in1) hh1 hv hm hn
  intro h' tk as hk hlt hl hG
  show wpAny _ _ (Builtin.Tuple.tupleExact (as.map Value.ref).toArray >>= fun v => ret v) _ _ _
  unfold Builtin.Tuple.tupleExact
  refine wpAny_bind (wpAny_newObj_type ?_ (by show (as.map Value.ref).toArray.size ≤ sizeLine; rw [List.size_toArray, List.length_map, hl]; exact hn))
  refine wpAny_pure ?_
  exact h h' tk as hk hlt hl hG
theorem call_tuple_items {Q : Value → Shared → Prop} (hh : A.handled = none) (hv : s.heap.IsItemsView r d) (hm : Raw s.heap d es ep) (hn : es.size ≤ sizeLine)
    (h : ∀ (h' : Heap) (tk : Nat) (as : List Addr), (∀ b o, s.heap.get? b = some o → h'.get? b = some o) → s.heap.objs.size < h'.objs.size → as.length = es.size → Made es s.heap.objs.size h' as →
      Q (.ref h'.objs.size) { s with heap := h'.push { cls := .type "tuple", data := .seq (as.map Value.ref).toArray }, toks := tk }) :
    wpAny (model prog w) A (call (.type "tuple") [.ref r]) Q E s := by
  refine callType_codes (Q₁ := fun obj s₁ => s₁.TypeIs obj "tuple" ∧ Q obj s₁) F.called_tuple (F.typeCall_tuple_1 _) F.entry_object_init
    (code_tuple_new_items (A := A.in1) hh hv hm hn fun h' tk as hk hlt hl hG => ⟨⟨_, Heap.get?_push_size _ rfl, rfl⟩, h h' tk as hk hlt hl hG⟩) fun obj s₁ h₁ => ?_
  exact ⟨h₁.1, F.args_object_init_2 obj _, object_init_meets F.called_tuple.init.lookup F.called_tuple.made (by decide) prog w A.in1 _ s₁ ⟨h₁.1, rfl, h₁.2⟩⟩
end
end DT
namespace Pv
open PySem PySem.Spec PyProof.Rows L2 L2.DX
def rTupIt : RC := fun vs H Q => ∃ (p a : Addr) (kvs : List (List L2.Key × V)), vs = [.ref p] ∧ H p = some (itemsO p a) ∧ H a = some (.dT kvs) ∧
  ∀ (H' : Hp) (l : Addr) (as : List Addr), Same H H' → as.length = kvs.length → H' l = some (.tup (as.map V.ref)) →
    (∀ (j : Nat) (b : Addr) (kv : List L2.Key × V), as[j]? = some b → kvs[j]? = some kv → ∃ q, H' b = some (.tup [.ref q, kv.2]) ∧ H' q = some (.tup (kv.1.map kV))) → Q (.ref l) H'
theorem call_tupIt {X : Cx} (hc : X.calm = true) : CallR X (.type "tuple") rTupIt := by
  intro pins s σ H xs us Q I r h
  obtain ⟨p, a, kvs, rfl, hp, ha, q⟩ := h
  obtain rfl := Vals.ref1 r
  have view : s.heap.IsItemsView p a := (show ObjOk X.prog X.w H s.heap p (itemsO p a) from I.hok p _ hp).1
  obtain ⟨z, hd, xs', rel, o, es, ep, ho, hx, hdat, hes, his, hn⟩ := dt_of I.hok ha
  have l1 : kvs.length = xs'.length := Paired.length rel
  have l2 : es.size = xs'.length := size_of_entries hes
  have hh : X.A.handled = none := I.ok.hd hc
  refine DT.call_tuple_items (es := es) (ep := ep) hh view ⟨o, ho, hx, hdat⟩ (by omega) fun h' tk as hk hlt hl hG => ?_
  have lak : as.length = kvs.length := by omega
  have nd : as.Nodup := List.Pairwise.imp (fun h => Nat.ne_of_lt h) hG.rise
  have pr : ∀ (j : Nat) (b : Addr), as[j]? = some b → ∃ (e : List L2.Key × V) (kq : Addr) (u : Value), kvs[j]? = some e ∧ H kq = some (.tup (e.1.map kV)) ∧ RelV e.2 u ∧ h'.get? b = some { cls := .type "tuple", data := .seq #[Value.ref kq, u] } := by
    intro j b hj
    obtain ⟨en, he, hg⟩ := hG.pairs j b hj
    rw [entry_at hes j] at he
    cases hxj : xs'[j]? with
    | none =>
      rw [hxj] at he
      exact nomatch (show (none : Option DictEntry) = some en from he)
    | some x =>
      rw [hxj] at he
      have een : entryOfKey (tupleKind (mixKind X.prog X.w)) x = en := Option.some.inj he
      obtain ⟨e0, he0, r1, r2, r3⟩ := pget rel hxj
      refine ⟨e0, x.2.1, x.2.2, he0, r2, r3, ?_⟩
      rw [hg, ← een]
      all_goals rfl
  have kS : ∀ b o, s.heap.get? b = some o → (h'.push { cls := .type "tuple", data := .seq (as.map Value.ref).toArray }).get? b = some o := fun b o e => Heap.get?_push_of_some _ (hk b o e)
  have I1 : Inv X pins σ H { s with heap := h'.push { cls := .type "tuple", data := .seq (as.map Value.ref).toArray }, toks := tk } := I.kept (t' := tk) kS
  have hn0 : H h'.objs.size = none := I.hok.fresh (Nat.le_of_lt hlt)
  have rv : Vals (as.map V.ref) (as.map Value.ref) := vals_maps (fun z : Addr => V.ref z) (fun z => Value.ref z) as fun _ _ => rfl
  have I2 : Inv X pins σ (upd H h'.objs.size (.tup (as.map V.ref))) { s with heap := h'.push { cls := .type "tuple", data := .seq (as.map Value.ref).toArray }, toks := tk } :=
    I1.take (h' := h'.push { cls := .type "tuple", data := .seq (as.map Value.ref).toArray }) (t' := tk) (fun b ob _ e => e) (I.fpOk (Nat.le_of_lt hlt) hn0) ⟨by rw [List.length_map]; omega, as.map Value.ref, rv, IsTup.new _ _⟩
  obtain ⟨H2, I3, g, qt⟩ := takeT (P := fun b vs => ∃ (j : Nat) (e : List L2.Key × V) (kq : Addr), as[j]? = some b ∧ kvs[j]? = some e ∧ vs = [.ref kq, e.2] ∧ H kq = some (.tup (e.1.map kV))) I as _ I2 nd fun b hb => by
    obtain ⟨j, hj⟩ := List.mem_iff_getElem?.mp hb
    obtain ⟨e, kq, u, he, hkq, hu, hg⟩ := pr j b hj
    have hbl : s.heap.objs.size ≤ b := Nat.le_of_lt (hG.above b hb)
    refine ⟨hbl, ?_, [.ref kq, e.2], ⟨j, e, kq, hj, he, rfl, hkq⟩, fun H3 => ⟨(by rw [sizeLine_eq]; show 2 ≤ 16777216; omega), [Value.ref kq, u], .cons rfl (.cons hu .nil), ⟨_, Heap.get?_push_of_some _ hg, rfl, 0, rfl⟩⟩⟩
    rw [upd_ne (Nat.ne_of_lt (Heap.lt_size hg))]
    exact I.hok.fresh hbl
  have gr : ∀ b o, H b = some o → H2 b = some o := fun b o e => g b o (by rw [upd_ne (ne_of_none e hn0)]; exact e)
  refine ⟨.ref h'.objs.size, H2, I3, rfl, q H2 h'.objs.size as gr lak (g _ _ upd_same) fun j b kv hj hkv => ?_⟩
  obtain ⟨vs, ⟨i, e, kq, i1, i2, ev, hkq⟩, hH⟩ := qt b (List.mem_of_getElem? hj)
  have eij : j = i := (List.getElem?_inj (List.getElem?_eq_some_iff.mp hj).1 nd).mp (hj.trans i1.symm)
  subst eij
  have ee : e = kv := Option.some.inj (i2.symm.trans hkv)
  rw [ev, ee] at hH
  rw [ee] at hkq
  exact ⟨kq, hH, gr _ _ hkq⟩
end Pv

set_option maxHeartbeats 1000000
namespace DT
open PySem PySem.W PySem.Calls PyProof.Rows PyProof.V PySem.Spec
/-! tuple(d.values()) -/
section
variable {prog : Program} {w : World} {A : Around} {E : Value → Shared → Prop} {s : Shared} {r d : Addr} {T : String} {n : Nat} {P : Nat → Value → Prop} {OK : Heap → Prop}
theorem code_tuple_new_vals {Q₁ : Value → Shared → Prop} (K : KdlSrc prog w "dict_values" r d n P OK) (hh : A.handled = none) (hok : OK s.heap) (hn : n ≤ sizeLine)
    (h : ∀ (h' : Heap) (tk : Nat) (acc : Array Value), (∀ b o, s.heap.get? b = some o → h'.get? b = some o) → ItemsOf P acc n →
      Q₁ (.ref h'.objs.size) { s with heap := h'.push { cls := .type "tuple", data := .seq acc.toList.toArray }, toks := tk }) :
    codeAny (model prog w) A (.call (.builtin "tuple.__new__") ⟨[.type "tuple", .ref r], []⟩) (wants Q₁ E) s := by
  refine codeAny_of_tree ?_
  show wpAny _ A.in1 (do checkBuiltinCall "tuple.__new__" ⟨[.type "tuple", .ref r], []⟩; again (.builtin "tuple.__new__" ⟨[.type "tuple", .ref r], []⟩)) _ _ s
  refine wpAny_bind (wpAny_of_eq (F.newCall_tuple_1 _) (wpAny_pure ⟨plainId_quiet F.plain_tuple_new _, codeAny_builtin F.entry_tuple_new ?_⟩))
  rw [Around.under_plainId F.plain_tuple_new _]
  have hsub := sub_tuple_self
  have hinit := init_tuple_lookup
  have hmh := madeHere_tuple
  have hTI : s.TypeIs (.ref r) "dict_values" := K.type _ hok
  have hh1 : A.in1.handled = none := hh
  wp_walk using wpAny_typeOf hTI, kdu_collect (A := A.in1) K hh1 hok hn
  intro h' tk acc hk hI
  show wpAny _ _ (Builtin.Tuple.tupleExact acc.toList.toArray >>= fun v => ret v) _ _ _
  unfold Builtin.Tuple.tupleExact
  refine wpAny_bind (wpAny_newObj_type ?_ (by show acc.toList.toArray.size ≤ sizeLine; rw [List.size_toArray, Array.length_toList, hI.1]; exact hn))
  refine wpAny_pure ?_
  exact h h' tk acc hk hI
theorem call_tuple_vals {Q : Value → Shared → Prop} (K : KdlSrc prog w "dict_values" r d n P OK) (hh : A.handled = none) (hok : OK s.heap) (hn : n ≤ sizeLine)
    (h : ∀ (h' : Heap) (tk : Nat) (acc : Array Value), (∀ b o, s.heap.get? b = some o → h'.get? b = some o) → ItemsOf P acc n →
      Q (.ref h'.objs.size) { s with heap := h'.push { cls := .type "tuple", data := .seq acc.toList.toArray }, toks := tk }) :
    wpAny (model prog w) A (call (.type "tuple") [.ref r]) Q E s := by
  refine callType_codes (Q₁ := fun obj s₁ => s₁.TypeIs obj "tuple" ∧ Q obj s₁) F.called_tuple (F.typeCall_tuple_1 _) F.entry_object_init
    (code_tuple_new_vals (A := A.in1) K hh hok hn fun h' tk acc hk hI => ⟨⟨_, Heap.get?_push_size _ rfl, rfl⟩, h h' tk acc hk hI⟩) fun obj s₁ h₁ => ?_
  exact ⟨h₁.1, F.args_object_init_2 obj _, object_init_meets F.called_tuple.init.lookup F.called_tuple.made (by decide) prog w A.in1 _ s₁ ⟨h₁.1, rfl, h₁.2⟩⟩
end
end DT
namespace Pv
open PySem PySem.Spec PyProof.Rows L2
/-- d.values(): a view -/
def rValsK : V → List V → Hp → VK → Prop := fun x xs H Q => ∃ (a : Addr) (kvs : List (L2.Key × V)), x = .ref a ∧ xs = [] ∧ H a = some (.dK kvs) ∧ ∀ p, H p = none → Q (.ref p) (upd H p (viewO "dict_values" p a))
theorem mt_valuesK {X : Cx} : MtR X "dict.values" rValsK := by
  intro pins s σ H x xs v us Q I rx rxs h
  obtain ⟨a, kvs, rfl, rfl, ha, q⟩ := h
  cases rx
  cases rxs
  obtain ⟨_, hsys, vs, rel, dof⟩ := dk_of I.hok ha
  refine call_meetsIn PySem.F.slot_dict_values dof.typeIs PySem.F.entry_dict_values (PySem.F.args_dict_values_1 _) (meets_dict_values (mixKind X.prog X.w) a hsys) ⟨⟨vs, dof⟩, ?_⟩
  have hf : H s.heap.objs.size = none := I.hok.fresh (Nat.le_refl _)
  exact ⟨.ref s.heap.objs.size, upd H s.heap.objs.size (viewO "dict_values" s.heap.objs.size a), I.laid (t' := s.toks) (fun b u e => Heap.get?_push_of_some _ e) (Nat.le_refl _) (viewO_ok (Heap.get?_push_size _ rfl)), rfl, q _ hf⟩
def rTupVals : RC := fun vs H Q => ∃ (p a : Addr) (kvs : List (L2.Key × V)), vs = [.ref p] ∧ H p = some (viewO "dict_values" p a) ∧ H a = some (.dK kvs) ∧ ∀ l, H l = none → Q (.ref l) (upd H l (.tup (kvs.map (·.2))))
theorem vals_kv {kvs : List (L2.Key × V)} {vs : List (L2.Key × Value)} (r : KV kvs vs) : Vals (kvs.map (·.2)) (vs.map (·.2)) := by
  unfold KV at r
  induction r with
  | nil => exact .nil
  | cons r t ih => exact .cons r.2 ih
theorem call_tupVals {X : Cx} (hc : X.calm = true) : CallR X (.type "tuple") rTupVals := by
  intro pins s σ H xs us Q I r h
  obtain ⟨p, a, kvs, rfl, hp, ha, q⟩ := h
  obtain rfl := Vals.ref1 r
  have view : s.heap.get? p = some (DSub.viewOb "dict_values" a) := (show ObjOk X.prog X.w H s.heap p (viewO "dict_values" p a) from I.hok p _ hp).1
  obtain ⟨z, hd, vs, rel, dof⟩ := dk_of I.hok ha
  obtain ⟨ep, dat⟩ := dof.dictAt
  have l1 : kvs.length = vs.length := KV.length rel
  have hh : X.A.handled = none := I.ok.hd hc
  refine DT.call_tuple_vals (PySem.W.kdl_values (knd := mixKind X.prog X.w) (kvs := vs) (ep := ep)) hh ⟨⟨_, view, rfl, rfl⟩, dat⟩ (by rw [← l1]; exact z) fun h' tk acc hk hI => ?_
  have ea : acc.toList = vs.map (·.2) := PySem.W.kdl_vals_eq acc.toList (by rw [Array.length_toList]; exact hI.1) fun j v e => hI.2 j v (by rw [← Array.getElem?_toList]; exact e)
  have I1 : Inv X pins σ H { s with heap := h', toks := tk } := I.kept (t' := tk) hk
  exact ⟨.ref h'.objs.size, upd H h'.objs.size (.tup (kvs.map (·.2))), I1.laid (t' := tk) (fun b o e => Heap.get?_push_of_some _ e) (Nat.le_refl _) (show ObjOk X.prog X.w _ _ _ (.tup (kvs.map (·.2))) from ⟨by rw [List.length_map]; exact z, acc.toList, by rw [ea]; exact vals_kv rel, IsTup.new _ _⟩), rfl, q _ (I1.hok.fresh (Nat.le_refl _))⟩
end Pv

set_option maxHeartbeats 1000000
namespace Pv
open PySem PySem.Spec PyProof.Rows L2
/-! the least of a list of ((int, int), int); walks over a dict that nobody changes any more -/
abbrev Tri := Int × Int × Int
def dTri (x : Tri) : PyData := .tuple [.tuple [.int x.1, .int x.2.1], .int x.2.2]
def ltTri (x y : Tri) : Bool := if x.1 = y.1 then (if x.2.1 = y.2.1 then decide (x.2.2 < y.2.2) else decide (x.2.1 < y.2.1)) else decide (x.1 < y.1)
theorem toksTri (x : Tri) : PySem.W.keyToks (dTri x) = [.inl 1, .inl 1, .inl x.1, .inl 1, .inl x.2.1, .inl 0, .inl 1, .inl x.2.2, .inl 0] := by
  simp [dTri, PySem.W.keyToks, PySem.W.keyToksAll]
theorem lexTri (x y : Tri) : PySem.W.dataLt (dTri x) (dTri y) = ltTri x y := by
  unfold PySem.W.dataLt
  rw [toksTri, toksTri]
  have st : ∀ (a b : Int) (l m : List (Int ⊕ List Nat)), PyProof.Rows.lexLt PyProof.Rows.itemOrd (.inl a :: l) (.inl b :: m) = if a = b then PyProof.Rows.lexLt PyProof.Rows.itemOrd l m else decide (a < b) := fun a b l m => by
    by_cases e : a = b
    · subst e
      rw [if_pos rfl]
      exact PyProof.Rows.lex_self (O := PyProof.Rows.itemOrd) (.inl a) l m
    · rw [if_neg e]
      have := PySem.W.dataLt_int a b
      unfold PySem.W.dataLt at this
      rw [← this]
      exact PySem.W.lex_atom (fun z => e (Sum.inl.inj z)) l m
  simp only [st, if_true]
  unfold ltTri
  by_cases h1 : x.1 = y.1
  · rw [if_pos h1, if_pos h1]
    by_cases h2 : x.2.1 = y.2.1
    · rw [if_pos h2, if_pos h2]
      by_cases h3 : x.2.2 = y.2.2
      · rw [if_pos h3, h3]; simp [PyProof.Rows.lexLt]
      · rw [if_neg h3]
    · rw [if_neg h2, if_neg h2]
  · rw [if_neg h1, if_neg h1]
def TriAt (K : PySem.W.Frag) (H : Hp) (a : Addr) (x : Tri) : Prop := ∃ b, SqT K H a [.ref b, .int x.2.2] ∧ SqT K H b [.int x.1, .int x.2.1]
def rMinP (K : PySem.W.Frag) : RC := fun xs H Q => ∃ (a : Addr) (ds : List (Addr × Tri)), xs = [.ref a] ∧ SqL K H a (ds.map fun d => .ref d.1) ∧ (∀ d ∈ ds, TriAt K H d.1 d.2) ∧ ds ≠ [] ∧ ∀ d ∈ ds, (∀ e ∈ ds, ltTri e.2 d.2 = false) → Q (.ref d.1) H
theorem reads2 {h : Heap} {a : Addr} {u v : Value} {d e : PyData} {as bs : List Addr} (t : IsTup h a #[u, v]) (r1 : Reads h u d as) (r2 : Reads h v e bs) : ∃ cs, Reads h (.ref a) (.tuple [d, e]) cs := by
  obtain ⟨o, ho, hc, n, hd⟩ := t
  exact ⟨_, .tuple ho hc hd (.cons r1 (.cons r2 .nil))⟩
theorem triReads {X : Cx} {pins : List (Addr × Obj)} {σ : L2.St} {H : Hp} {s : Shared} (I : Inv X pins σ H s) {a : Addr} {x : Tri} (t : TriAt X.K H a x) : ∃ as, Reads s.heap (.ref a) (dTri x) as := by
  obtain ⟨b, t1, t2⟩ := t
  obtain ⟨i1, r1, p1, _⟩ := I.tuple t1
  obtain ⟨i2, r2, p2, _⟩ := I.tuple t2
  obtain ⟨u, v, rfl, ru, rv⟩ := vals2 r1
  obtain ⟨u2, v2, rfl, ru2, rv2⟩ := vals2 r2
  cases ru
  obtain ⟨_, rfl⟩ := rv
  obtain ⟨_, rfl⟩ := ru2
  obtain ⟨_, rfl⟩ := rv2
  obtain ⟨cs, q⟩ := reads2 p2 (.int _ _) (.int _ _)
  exact reads2 p1 q (.int _ _)
theorem triAll {X : Cx} {pins : List (Addr × Obj)} {σ : L2.St} {H : Hp} {s : Shared} (I : Inv X pins σ H s) : ∀ {ds : List (Addr × Tri)} {its : List Value}, Vals (ds.map fun d => V.ref d.1) its → (∀ d ∈ ds, TriAt X.K H d.1 d.2) → ∃ as, ReadsAll s.heap its (ds.map fun d => dTri d.2) as
  | [], its, r, _ => by cases r; exact ⟨_, .nil⟩
  | d :: ds, its, r, h => by
    cases r with
    | cons r1 r2 =>
      cases r1
      obtain ⟨as, q⟩ := triReads I (h d List.mem_cons_self)
      obtain ⟨bs, q2⟩ := triAll I r2 fun e he => h e (List.mem_cons_of_mem _ he)
      exact ⟨_, .cons q q2⟩
theorem ltTri_irr (x : Tri) : ltTri x x = false := by unfold ltTri; simp
theorem fold_least : ∀ (xs : List Tri) (x : Tri), ltTri x (xs.foldl (fun a y => if ltTri y a = true then y else a) x) = false ∧ ∀ y ∈ xs, ltTri y (xs.foldl (fun a y => if ltTri y a = true then y else a) x) = false
  | [], x => ⟨ltTri_irr x, fun y h => by cases h⟩
  | z :: xs, x => by
    have tr : ∀ a b c : Tri, ltTri a b = false → ltTri b c = false → ltTri a c = false := fun a b c => by
      unfold ltTri
      intro h1 h2
      split at h1 <;> split at h2 <;> split
      all_goals (try split at h1) 
      all_goals (try split at h2)
      all_goals (try split)
      all_goals simp only [decide_eq_false_iff_not] at *
      all_goals omega
    obtain ⟨h1, h2⟩ := fold_least xs (if ltTri z x = true then z else x)
    rw [List.foldl_cons]
    have a1 : ltTri x (if ltTri z x = true then z else x) = false := by
      split
      · rename_i q
        unfold ltTri at q ⊢
        split at q <;> split
        all_goals (try split at q)
        all_goals (try split)
        all_goals simp only [decide_eq_false_iff_not, decide_eq_true_eq] at *
        all_goals omega
      · exact ltTri_irr x
    have a2 : ltTri z (if ltTri z x = true then z else x) = false := by
      split
      · exact ltTri_irr z
      · rename_i q; exact Bool.eq_false_iff.mpr q
    refine ⟨tr _ _ _ a1 h1, fun y hy => ?_⟩
    rcases List.mem_cons.mp hy with q | q
    · rw [q]; exact tr _ _ _ a2 h1
    · exact h2 y q
theorem call_minP {X : Cx} (hc : X.calm = true) (hu : X.A.units + 64 < cLine) : CallR X (.builtin "min") (rMinP X.K) := by
  intro pins s σ H xs us Q I r h
  obtain ⟨a, ds, rfl, hL, hT, hne, q⟩ := h
  obtain rfl := Vals.ref1 r
  obtain ⟨its, rv, pl, hz⟩ := I.list hL
  obtain ⟨as, hr⟩ := triAll I rv hT
  have hl := rv.length
  rw [List.length_map] at hl
  have hh : X.A.handled = none := I.ok.hd hc
  cases eds : ds with
  | nil => exact absurd eds hne
  | cons d0 ds' =>
    have hr : ReadsAll s.heap its.toArray.toList (ds.map fun d => dTri d.2) as := hr
    have al : PySem.W.AlikeAll (ds.map fun d => dTri d.2) := ⟨fun x hx y hy => by
      obtain ⟨d, _, rfl⟩ := List.mem_map.mp hx
      obtain ⟨e, _, rfl⟩ := List.mem_map.mp hy
      simp [dTri, PySem.W.alike, PySem.W.alikeAll], fun x hx => by
      obtain ⟨d, _, rfl⟩ := List.mem_map.mp hx
      unfold dTri; intro z; cases z⟩
    have dep : PyData.depthAll (ds.map fun d => dTri d.2) ≤ 8 := by
      generalize ds = l
      induction l with
      | nil => simp [PyData.depthAll]
      | cons x l ih =>
        have : PyData.depthAll ((x :: l).map fun d => dTri d.2) = max (dTri x.2).depth (PyData.depthAll (l.map fun d => dTri d.2)) := rfl
        have e2 : (dTri x.2).depth ≤ 8 := by simp [dTri, PyData.depth, PyData.depthAll]
        rw [this]; omega
    refine call_min_walkH (PySem.W.iter_listW (A := X.A.in1) hh pl.isList fun s₂ e W st hfp hw hk => ?_)
    refine ⟨_, _, _, _, _, _, _, s.heap, _, rfl, W, st, hfp, by rw [List.size_toArray, ← hl, eds]; simp, hw, hk, PySem.W.cmpIn_lt (A := X.A.in1) hr al (by show X.A.units + 1 + _ < _; omega), fun v s' hP m => ?_⟩
    obtain ⟨h', tk, rfl, hk'⟩ := PySem.W.moved_old e rfl m
    have hsz : its.toArray.size - 1 = ds'.length := by rw [List.size_toArray, ← hl, eds]; simp
    rw [hsz] at hP
    obtain ⟨f1, f2⟩ := PySem.W.argBest_fold PySem.W.dataLt PyData.none (dTri d0.2) (ds'.map fun d => dTri d.2) ds'.length (by rw [List.length_map]; exact Nat.le_refl _)
    have eb : (fun i j => PySem.W.dataLt ((ds.map fun d => dTri d.2).getD i .none) ((ds.map fun d => dTri d.2).getD j .none)) = fun i j => PySem.W.dataLt ((dTri d0.2 :: ds'.map fun d => dTri d.2).getD i .none) ((dTri d0.2 :: ds'.map fun d => dTri d.2).getD j .none) := by rw [eds]; rfl
    rw [eb] at hP
    generalize argBest (fun i j => PySem.W.dataLt ((dTri d0.2 :: ds'.map fun d => dTri d.2).getD i .none) ((dTri d0.2 :: ds'.map fun d => dTri d.2).getD j .none)) ds'.length = k at hP f1 f2
    have hk2 : k < ds.length := by rw [eds, List.length_cons]; omega
    obtain ⟨u, hu2, ru⟩ := rv.get (i := k) (x := .ref ds[k].1) (by rw [List.getElem?_map, List.getElem?_eq_getElem hk2]; rfl)
    have hP : its[k]? = some v := by simpa using hP
    rw [hu2] at hP
    cases hP
    cases ru
    refine ⟨.ref ds[k].1, H, I.kept (t' := tk) hk', rfl, q _ (List.getElem_mem hk2) fun e he => ?_⟩
    have ek : dTri ds[k].2 = (ds'.map fun d => dTri d.2).foldl (fun a y => if PySem.W.dataLt y a then y else a) (dTri d0.2) := by
      rw [List.take_of_length_le (by rw [List.length_map]; exact Nat.le_refl _)] at f2
      rw [← f2]
      have : (dTri d0.2 :: ds'.map fun d => dTri d.2) = ds.map fun d => dTri d.2 := by rw [eds]; rfl
      rw [this, List.getD_eq_getElem?_getD, List.getElem?_map, List.getElem?_eq_getElem hk2]
      rfl
    have ef : ∀ (l : List (Addr × Tri)) (x : Tri), (l.map fun d => dTri d.2).foldl (fun a y => if PySem.W.dataLt y a then y else a) (dTri x) = dTri ((l.map (·.2)).foldl (fun a y => if ltTri y a = true then y else a) x) := fun l => by
      induction l with
      | nil => intro x; rfl
      | cons y l ih =>
        intro x
        rw [List.map_cons, List.foldl_cons, List.map_cons, List.foldl_cons, lexTri, ← ih]
        congr 1
        split <;> rfl
    rw [ef] at ek
    have inj : ∀ x y : Tri, dTri x = dTri y → x = y := fun x y z => by
      obtain ⟨x1, x2, x3⟩ := x
      obtain ⟨y1, y2, y3⟩ := y
      simp [dTri] at z
      obtain ⟨⟨rfl, rfl⟩, rfl⟩ := z
      rfl
    have ek := inj _ _ ek
    obtain ⟨l1, l2⟩ := fold_least (ds'.map (·.2)) d0.2
    rw [ek]
    rw [eds] at he
    rcases List.mem_cons.mp he with z | z
    · rw [z]; exact l1
    · exact l2 _ (List.mem_map.mpr ⟨e, z, rfl⟩)
/-! ### d.items() of a dict that stays as it is from here on -/
def iItemsF (td : TE) : TI := fun σ H R => td σ H fun x H1 => ∃ d kvs, x = .ref d ∧ H1 d = some (.dK kvs) ∧ ∀ o, R (Iti d o kvs) (upd H1 d (.frz o (.dK kvs)))
end Pv

namespace Pv
open PySem PySem.Spec PyProof.Rows L2
section
variable {K : PySem.W.Frag} {H : Hp} {a b : Addr} {xs ys : List V} {Q : VK}
/-! slices and sums of tuples, whichever object comes back -/
theorem take_eq (hP : SqT K H a xs) (n : Nat) (h : ∀ (H' : Hp) (b : Addr), Same H H' → SqT K H' b (xs.take n) → Q (.ref b) H') : rSlA K (.ref a) none (some (n : Int)) H Q := by
  have hcut : cutV xs none (some (n : Int)) = xs.take n := cut_to _ n
  refine ⟨a, _, rfl, hP, fun hw => ?_, fun _ p np => ?_⟩
  · refine h H a (Same.refl _) ?_
    have e : xs.take n = xs := by
      rw [← hcut]
      unfold cutV
      rw [hw.1, hw.2, List.drop_zero, Nat.sub_zero, List.take_length]
    rw [e]; exact hP
  · refine h _ p (sameNew np) (SqT.of ?_)
    rw [upd_same, hcut]
theorem cut_tail (xs : List V) (n : Nat) : cutV xs (some (n : Int)) none = xs.drop n := by
  unfold cutV
  rw [HT.sIx_nat, HT.sIx_none]
  by_cases h : n ≤ xs.length
  · rw [Nat.min_eq_left h, List.take_of_length_le (by rw [List.length_drop]; exact Nat.le_refl _)]
  · rw [Nat.min_eq_right (by omega), List.drop_eq_nil_of_le (Nat.le_refl _), List.drop_eq_nil_of_le (by omega)]; simp
theorem drop_eq (hP : SqT K H a xs) (n : Nat) (h : ∀ (H' : Hp) (b : Addr), Same H H' → SqT K H' b (xs.drop n) → Q (.ref b) H') : rSlA K (.ref a) (some (n : Int)) none H Q := by
  have hcut := cut_tail xs n
  refine ⟨a, _, rfl, hP, fun hw => ?_, fun _ p np => ?_⟩
  · refine h H a (Same.refl _) ?_
    have e : xs.drop n = xs := by
      rw [← hcut]
      unfold cutV
      rw [hw.1, hw.2, List.drop_zero, Nat.sub_zero, List.take_length]
    rw [e]; exact hP
  · refine h _ p (sameNew np) (SqT.of ?_)
    rw [upd_same, hcut]
theorem cat_eq (ha : SqT K H a xs) (hb : SqT K H b ys) (hz : xs.length + ys.length ≤ sizeLine) (h : ∀ (H' : Hp) (p : Addr), Same H H' → SqT K H' p (xs ++ ys) → Q (.ref p) H') : rCatA K (.ref a) (.ref b) H Q := by
  refine ⟨a, b, xs, ys, rfl, rfl, ha, hb, hz, fun e => ?_, fun _ e => ?_, fun _ _ p np => ?_⟩
  · subst e; exact h H b (Same.refl _) (by simpa using hb)
  · subst e; exact h H a (Same.refl _) (by simpa using ha)
  · exact h _ p (sameNew np) (SqT.of upd_same)
end
/-! the greatest of a tuple of ints -/
def rMaxT (K : PySem.W.Frag) : RC := fun xs H Q => ∃ (a : Addr) (ns : List Int), xs = [.ref a] ∧ SqT K H a (ns.map V.int) ∧ 0 < ns.length ∧ ∀ m, m ∈ ns → (∀ y ∈ ns, y ≤ m) → Q (.int m) H
theorem call_maxT {X : Cx} (hc : X.calm = true) : CallR X (.builtin "max") (rMaxT X.K) := by
  intro pins s σ H xs us Q I r h
  obtain ⟨a, ns, rfl, hT, hne, q⟩ := h
  obtain ⟨u, rfl, rfl⟩ := vals1 r
  obtain ⟨its, rv, ht, hz⟩ := I.tuple hT
  have hi : IntsAre its ns := rv.ints
  obtain ⟨ys, e⟩ := hi.allInts.items
  have hn : numsOf (intItems ys).toList = ns := by rw [← e]; exact hi.numsOf
  rw [nums_intItems] at hn
  rw [e] at ht
  subst hn
  have hsz : 0 < ys.size := by simpa using hne
  have ht' : s.heap.IsTuple a (intItems ys) := ht
  have hlt : a < s.heap.objs.size := by obtain ⟨_, z, _⟩ := ht; exact Heap.lt_size z
  refine call_max_walk (wpAny_pyIter_tuple ht' ?_)
  refine ⟨_, _, _, _, _, _, _, rfl, Walks.tuple (A := X.A.in1) (I.ok.hd hc) _ a (Nat.ne_of_lt hlt) (intItems ys), ⟨⟨_, Heap.get?_push_size _ rfl, rfl, rfl⟩, ht'.push _⟩, ?_, by simpa [intItems] using hsz, CmpOf.ints_gt (numAt ys) (fun _ _ => intItems_at), ?_⟩
  · intro b hb
    show b < (s.heap.push _).objs.size
    rw [Heap.size_push]
    simp only [List.mem_cons, List.not_mem_nil, or_false] at hb
    rcases hb with rfl | rfl
    · exact Nat.lt_succ_self _
    · exact Nat.lt_succ_of_lt hlt
  · intro v h' tk hP hk
    have hP' : (intItems ys)[argBest (fun i j => decide (numAt ys i > numAt ys j)) (ys.size - 1)]? = some v := by simpa [intItems] using hP
    obtain ⟨t, rfl⟩ := intItems_at hP'
    obtain ⟨h1, h2⟩ := argBest_gt (numAt ys) (ys.size - 1)
    refine ⟨.int _, H, I.kept (t' := tk) (h' := h') ?_, ⟨_, rfl⟩, q _ ?_ ?_⟩
    · intro b o eb
      refine hk b o (fun hm => ?_) (Heap.get?_push_of_some _ eb)
      exact absurd (Heap.lt_size eb) ((List.mem_singleton.mp hm) ▸ Nat.lt_irrefl _)
    · rw [numAt_eq]; exact PySem.getD_mem (by rw [List.length_map, Array.length_toList]; omega)
    · intro y hy
      obtain ⟨j, hj, rfl⟩ := mem_getD hy
      rw [List.length_map, Array.length_toList] at hj
      rw [← numAt_eq]; exact h2 j (by omega)
end Pv

/-! Transport by plain lists: dicts with int keys, the moves out of a column, the search's labels. -/
namespace Pv
namespace Tr
abbrev Row := List (Int × Int)
def gv {β : Type} : List (Int × β) → Int → Option β
  | [], _ => none
  | e :: r, k => if e.1 = k then some e.2 else gv r k
def pt {β : Type} : List (Int × β) → Int → β → List (Int × β)
  | [], k, v => [(k, v)]
  | e :: r, k, v => if e.1 = k then (e.1, v) :: r else e :: pt r k v
abbrev ks {β : Type} (r : List (Int × β)) : List Int := r.map (·.1)
theorem gv_pt {β : Type} (r : List (Int × β)) (k j : Int) (v : β) : gv (pt r k v) j = if k = j then some v else gv r j := by
  induction r with
  | nil => rfl
  | cons e r ih =>
    unfold pt
    by_cases h : e.1 = k
    · rw [if_pos h]; unfold gv; subst h
      by_cases h2 : e.1 = j
      · rw [if_pos h2]; simp [h2]
      · rw [if_neg h2]; simp [h2]
    · rw [if_neg h]; unfold gv
      by_cases h2 : e.1 = j
      · rw [if_pos h2, if_pos h2, if_neg (fun z => h (h2.trans z.symm))]
      · rw [if_neg h2, if_neg h2, ih]
theorem gv_mem {β : Type} {r : List (Int × β)} {k : Int} {v : β} (h : gv r k = some v) : (k, v) ∈ r := by
  induction r with
  | nil => cases h
  | cons e r ih =>
    unfold gv at h
    by_cases h2 : e.1 = k
    · rw [if_pos h2] at h; cases h; subst h2; exact List.mem_cons_self
    · rw [if_neg h2] at h; exact List.mem_cons_of_mem _ (ih h)
theorem gv_ks {β : Type} {r : List (Int × β)} {k : Int} {v : β} (h : gv r k = some v) : k ∈ ks r := List.mem_map.mpr ⟨_, gv_mem h, rfl⟩
theorem gv_of_ks {β : Type} {r : List (Int × β)} {k : Int} (h : k ∈ ks r) : ∃ v, gv r k = some v := by
  induction r with
  | nil => cases h
  | cons e r ih =>
    unfold gv
    by_cases h2 : e.1 = k
    · exact ⟨e.2, if_pos h2⟩
    · rw [if_neg h2]
      refine ih ?_
      rcases List.mem_cons.mp h with z | z
      · exact absurd z.symm h2
      · exact z
theorem gv_none {β : Type} {r : List (Int × β)} {k : Int} (h : gv r k = none) : ¬ k ∈ ks r := fun z => by
  obtain ⟨v, e⟩ := gv_of_ks z
  rw [h] at e; cases e
theorem gv_of_mem {β : Type} {r : List (Int × β)} (nd : (ks r).Nodup) {e : Int × β} (h : e ∈ r) : gv r e.1 = some e.2 := by
  induction r with
  | nil => cases h
  | cons x r ih =>
    unfold gv
    obtain ⟨n1, n2⟩ := List.nodup_cons.mp nd
    rcases List.mem_cons.mp h with z | z
    · subst z; exact if_pos rfl
    · rw [if_neg (fun q => n1 (by show x.1 ∈ ks r; rw [q]; exact List.mem_map.mpr ⟨e, z, rfl⟩))]; exact ih n2 z
theorem ks_pt {β : Type} (r : List (Int × β)) (k : Int) (v : β) : ks (pt r k v) = if k ∈ ks r then ks r else ks r ++ [k] := by
  induction r with
  | nil => simp [pt, ks]
  | cons e r ih =>
    unfold pt
    by_cases h : e.1 = k
    · rw [if_pos h]
      show e.1 :: ks r = if k ∈ e.1 :: ks r then e.1 :: ks r else e.1 :: ks r ++ [k]
      rw [if_pos (by rw [h]; exact List.mem_cons_self)]
    · rw [if_neg h]
      show e.1 :: ks (pt r k v) = _
      rw [ih]
      show _ = if k ∈ e.1 :: ks r then e.1 :: ks r else e.1 :: ks r ++ [k]
      by_cases h2 : k ∈ ks r
      · rw [if_pos h2, if_pos (show k ∈ e.1 :: ks r from List.mem_cons_of_mem _ h2)]
      · rw [if_neg h2, if_neg (show ¬ k ∈ e.1 :: ks r from fun z => by
          rcases List.mem_cons.mp z with q | q
          · exact h q.symm
          · exact h2 q)]; rfl
theorem nd_pt {β : Type} {r : List (Int × β)} (k : Int) (v : β) (nd : (ks r).Nodup) : (ks (pt r k v)).Nodup := by
  rw [ks_pt]
  split
  · exact nd
  · rename_i h
    exact List.nodup_append.mpr ⟨nd, List.nodup_cons.mpr ⟨by simp, List.nodup_nil⟩, fun a ha b hb e => by
      have : b = k := by simpa using hb
      rw [this] at e; rw [e] at ha; exact h ha⟩
def num (r : Row) (k : Int) : Int := (gv r k).getD 0
theorem num_pt (r : Row) (k j v : Int) : num (pt r k v) j = if k = j then v else num r j := by
  unfold num; rw [gv_pt]; split <;> rfl
theorem num_ks {r : Row} {k : Int} (h : num r k ≠ 0) : k ∈ ks r := by
  unfold num at h
  cases e : gv r k with
  | none => rw [e] at h; exact absurd rfl h
  | some v => exact gv_ks e
/-! ### the moves out of a column -/
structure T where
  room : List Int
  costs : List Row
  plan : List Row
def rm (t : T) (c : Int) : Int := t.room.getD c.toNat 0
abbrev Mv := List (Int × Int × Int)
def cheaper (M : Mv) (b x : Int) : Bool := match gv M b with | none => true | some m => decide (x < m.1)
def mvOne (cs : Row) (a : Int) (i : Nat) (M : Mv) (b : Int) : Mv :=
  if b ≠ a ∧ cheaper M b (num cs b - num cs a) = true then pt M b (num cs b - num cs a, (i : Int)) else M
def mvRow (cs : Row) (a : Int) (i : Nat) (M : Mv) : Mv := (ks cs).foldl (mvOne cs a i) M
def mvFrom (a : Int) : Nat → List Row → List Row → Mv → Mv
  | i, p :: P, c :: C, M => mvFrom a (i + 1) P C (if num p a = 0 then M else mvRow c a i M)
  | _, [], _, M => M
  | _, _ :: _, [], M => M
def moves (t : T) (a : Int) : Mv := mvFrom a 0 t.plan t.costs []
/-- row i has units at a and may go to b, at cost x -/
def Arc (t : T) (i : Nat) (a b x : Int) : Prop := ∃ P Q, t.plan[i]? = some P ∧ t.costs[i]? = some Q ∧ num P a ≠ 0 ∧ b ∈ ks Q ∧ b ≠ a ∧ x = num Q b - num Q a
def MvS (Φ : Nat → Int → Int → Prop) (M : Mv) : Prop := (ks M).Nodup ∧ ∀ b c r, gv M b = some (c, r) → ∃ i : Nat, r = i ∧ Φ i b c
def MvD (M : Mv) (b x : Int) : Prop := ∃ c r, gv M b = some (c, r) ∧ c ≤ x
theorem mvOne_s {Φ : Nat → Int → Int → Prop} {cs : Row} {a : Int} {i : Nat} {M : Mv} {b : Int} (h : MvS Φ M) (hb : b ≠ a → Φ i b (num cs b - num cs a)) : MvS Φ (mvOne cs a i M b) := by
  unfold mvOne
  split
  · rename_i q
    refine ⟨nd_pt _ _ h.1, fun b' c r e => ?_⟩
    rw [gv_pt] at e
    by_cases z : b = b'
    · rw [if_pos z] at e; cases e; subst z; exact ⟨i, rfl, hb q.1⟩
    · rw [if_neg z] at e; exact h.2 b' c r e
  · exact h
theorem mvOne_d {cs : Row} {a : Int} {i : Nat} {M : Mv} {b b' x : Int} (h : MvD M b' x) : MvD (mvOne cs a i M b) b' x := by
  unfold mvOne
  split
  · rename_i q
    obtain ⟨c, r, e, l⟩ := h
    by_cases z : b = b'
    · subst z
      refine ⟨_, _, by rw [gv_pt, if_pos rfl], ?_⟩
      have q2 := q.2
      unfold cheaper at q2
      rw [e] at q2
      have q2 : decide (num cs b - num cs a < c) = true := q2
      have := of_decide_eq_true q2
      omega
    · exact ⟨c, r, by rw [gv_pt, if_neg z]; exact e, l⟩
  · exact h
theorem mvOne_self {cs : Row} {a : Int} {i : Nat} {M : Mv} {b : Int} (h : b ≠ a) : MvD (mvOne cs a i M b) b (num cs b - num cs a) := by
  unfold mvOne
  split
  · exact ⟨_, _, by rw [gv_pt, if_pos rfl], Int.le_refl _⟩
  · rename_i q
    cases e : gv M b with
    | none => exact absurd ⟨h, by unfold cheaper; rw [e]⟩ q
    | some m =>
      refine ⟨m.1, m.2, e, ?_⟩
      by_cases z : num cs b - num cs a < m.1
      · exact absurd ⟨h, by unfold cheaper; rw [e]; exact decide_eq_true z⟩ q
      · omega
theorem mvFold_s {Φ : Nat → Int → Int → Prop} {cs : Row} {a : Int} {i : Nat} : ∀ {l : List Int} {M : Mv}, MvS Φ M → (∀ b ∈ l, b ≠ a → Φ i b (num cs b - num cs a)) → MvS Φ (l.foldl (mvOne cs a i) M)
  | [], _, h, _ => h
  | b :: l, M, h, hb => by rw [List.foldl_cons]; exact mvFold_s (mvOne_s h (hb b List.mem_cons_self)) fun b' m => hb b' (List.mem_cons_of_mem _ m)
theorem mvFold_d {cs : Row} {a : Int} {i : Nat} {b' x : Int} : ∀ {l : List Int} {M : Mv}, MvD M b' x → MvD (l.foldl (mvOne cs a i) M) b' x
  | [], _, h => h
  | b :: l, M, h => by rw [List.foldl_cons]; exact mvFold_d (mvOne_d h)
theorem mvFold_self {cs : Row} {a : Int} {i : Nat} {b : Int} (hb : b ≠ a) : ∀ {l : List Int} {M : Mv}, b ∈ l → MvD (l.foldl (mvOne cs a i) M) b (num cs b - num cs a)
  | [], _, h => by cases h
  | c :: l, M, h => by
    rw [List.foldl_cons]
    rcases List.mem_cons.mp h with z | z
    · subst z; exact mvFold_d (mvOne_self hb)
    · exact mvFold_self hb z
theorem mvFrom_s {Φ : Nat → Int → Int → Prop} {a : Int} : ∀ {i : Nat} {P C : List Row} {M : Mv}, MvS Φ M → (∀ j p c, P[j]? = some p → C[j]? = some c → num p a ≠ 0 → ∀ b ∈ ks c, b ≠ a → Φ (i + j) b (num c b - num c a)) → MvS Φ (mvFrom a i P C M)
  | i, [], C, M, h, _ => by unfold mvFrom; exact h
  | i, p :: P, [], M, h, _ => by unfold mvFrom; exact h
  | i, p :: P, c :: C, M, h, hb => by
    unfold mvFrom
    refine mvFrom_s ?_ fun j p' c' e1 e2 => ?_
    · split
      · exact h
      · rename_i q
        exact mvFold_s h fun b hb' n => by have := hb 0 p c rfl rfl q b hb' n; exact this
    · have := hb (j + 1) p' c' (by simpa using e1) (by simpa using e2)
      rw [show i + (j + 1) = i + 1 + j by omega] at this
      exact this
theorem mvFrom_k {a b x : Int} : ∀ {i : Nat} {P C : List Row} {M : Mv}, MvD M b x → MvD (mvFrom a i P C M) b x
  | i, [], C, M, h => by unfold mvFrom; exact h
  | i, p :: P, [], M, h => by unfold mvFrom; exact h
  | i, p :: P, c :: C, M, h => by
    unfold mvFrom
    refine mvFrom_k ?_
    split
    · exact h
    · exact mvFold_d h
theorem mvFrom_d {a b : Int} (hb : b ≠ a) : ∀ {i : Nat} {P C : List Row} {M : Mv} {j : Nat} {p c : Row}, P[j]? = some p → C[j]? = some c → num p a ≠ 0 → b ∈ ks c → MvD (mvFrom a i P C M) b (num c b - num c a)
  | i, [], C, M, j, p, c, e1, _, _, _ => by simp at e1
  | i, p' :: P, [], M, j, p, c, _, e2, _, _ => by simp at e2
  | i, p' :: P, c' :: C, M, 0, p, c, e1, e2, n, h => by
    unfold mvFrom
    have e1 : p' = p := by simpa using e1
    have e2 : c' = c := by simpa using e2
    subst e1 e2
    rw [if_neg n]
    exact mvFrom_k (mvFold_self hb h)
  | i, p' :: P, c' :: C, M, j + 1, p, c, e1, e2, n, h => by
    unfold mvFrom
    exact mvFrom_d hb (by simpa using e1) (by simpa using e2) n h
theorem moves_arc {t : T} {a : Int} : MvS (fun i b x => Arc t i a b x) (moves t a) :=
  mvFrom_s ⟨List.nodup_nil, fun b c r e => by cases e⟩ fun j p c e1 e2 n b hb hn => by
    rw [Nat.zero_add]; exact ⟨p, c, e1, e2, n, hb, hn, rfl⟩
theorem moves_le {t : T} {i : Nat} {a b x : Int} (h : Arc t i a b x) : MvD (moves t a) b x := by
  obtain ⟨P, Q, e1, e2, n, hb, hn, rfl⟩ := h
  exact mvFrom_d hn e1 e2 n hb
/-! ### the search -/
abbrev Lb := Int × Int × Int × Option Int
structure S where
  found : List (Int × Lb)
  wait : List Int
def ltP (a b : Int × Int) : Bool := if a.1 = b.1 then decide (a.2 < b.2) else decide (a.1 < b.1)
def leP (a b : Int × Int) : Prop := a.1 < b.1 ∨ (a.1 = b.1 ∧ a.2 ≤ b.2)
theorem leP.refl (a : Int × Int) : leP a a := .inr ⟨rfl, Int.le_refl _⟩
theorem leP.trans {a b c : Int × Int} (h : leP a b) (g : leP b c) : leP a c := by unfold leP at *; omega
theorem ltP_iff {a b : Int × Int} : ltP a b = true ↔ (a.1 < b.1 ∨ (a.1 = b.1 ∧ a.2 < b.2)) := by
  unfold ltP
  split <;> simp <;> omega
theorem not_ltP {a b : Int × Int} (h : ¬ ltP a b = true) : leP b a := by
  rw [ltP_iff] at h; unfold leP; omega
theorem ltP_le {a b : Int × Int} (h : ltP a b = true) : leP a b := by
  rw [ltP_iff] at h; unfold leP; omega
theorem leP.add {a b : Int × Int} (h : leP a b) (x y : Int) : leP (a.1 + x, a.2 + y) (b.1 + x, b.2 + y) := by
  unfold leP at *; simp only; omega
abbrev lk (l : Lb) : Int × Int := (l.1, l.2.1)
def better (F : List (Int × Lb)) (b : Int) (o : Int × Int) : Bool := match gv F b with | none => true | some l => ltP o (lk l)
def offer1 (a : Int) (l : Lb) (s : S) (m : Int × Int × Int) : S :=
  if better s.found m.1 (l.1 + m.2.1, l.2.1 + 1) = true then ⟨pt s.found m.1 (l.1 + m.2.1, l.2.1 + 1, m.2.2, some a), s.wait ++ [m.1]⟩ else s
def expand (t : T) (a : Int) (s : S) : S := match gv s.found a with
  | none => s
  | some l => (moves t a).foldl (offer1 a l) s
def stepS (t : T) (s : S) : S := match s.wait with
  | [] => s
  | a :: w => if 0 < rm t a then ⟨s.found, w⟩ else expand t a ⟨s.found, w⟩
def init (L : Row) (ℓ : Int) : S := ⟨L.map fun e => (e.1, (e.2, 1, ℓ, none)), ks L⟩
def stepN (t : T) : Nat → S → S
  | 0, s => s
  | n + 1, s => stepN t n (stepS t s)
end Tr
end Pv

/-! The search: its invariant, that it ends, what holds at its end. -/
namespace Pv
namespace Tr
structure Wf (t : T) : Prop where
  len : t.plan.length = t.costs.length
  key : ∀ (i : Nat) (P Q : Row), t.plan[i]? = some P → t.costs[i]? = some Q → ks P = ks Q
  nd : ∀ Q ∈ t.costs, (ks Q).Nodup
  rng : ∀ Q ∈ t.costs, ∀ k ∈ ks Q, 0 ≤ k ∧ k < t.room.length
  pn : ∀ P ∈ t.plan, ∀ k, 0 ≤ num P k
  rn : ∀ x ∈ t.room, 0 ≤ x
structure Pot (t : T) (p : Int → Int) : Prop where
  nn : ∀ c, 0 ≤ p c
  z : ∀ c, 0 < rm t c → p c = 0
  tight : ∀ i a b x, Arc t i a b x → p a ≤ x + p b
theorem Wf.rm0 {t : T} (h : Wf t) (c : Int) : 0 ≤ rm t c := by
  unfold rm
  rw [List.getD_eq_getElem?_getD]
  cases e : t.room[c.toNat]? with
  | none => exact Int.le_refl _
  | some x => exact h.rn x (List.mem_of_getElem? e)
theorem Wf.arc {t : T} (h : Wf t) {i : Nat} {a b x : Int} (g : Arc t i a b x) : (0 ≤ a ∧ a < t.room.length) ∧ (0 ≤ b ∧ b < t.room.length) := by
  obtain ⟨P, Q, e1, e2, n, hb, _, _⟩ := g
  have hQ := List.mem_of_getElem? e2
  refine ⟨h.rng Q hQ a ?_, h.rng Q hQ b hb⟩
  rw [← h.key i P Q e1 e2]
  exact num_ks n
/-- what every label says -/
structure SI (t : T) (p : Int → Int) (L : Row) (ℓ : Int) (s : S) : Prop where
  nd : (ks s.found).Nodup
  rng : ∀ v l, gv s.found v = some l → 0 ≤ v ∧ v < t.room.length
  one : ∀ v l, gv s.found v = some l → 1 ≤ l.2.1
  fst : ∀ v c k r, gv s.found v = some (c, k, r, none) → r = ℓ ∧ k = 1 ∧ gv L v = some c
  nxt : ∀ v c k r a, gv s.found v = some (c, k, r, some a) → ∃ l i x, gv s.found a = some l ∧ r = (i : Nat) ∧ Arc t i a v x ∧ rm t a ≤ 0 ∧ leP (l.1 + x, l.2.1 + 1) (c, k)
  top : ∀ v x, gv L v = some x → ∃ l, gv s.found v = some l ∧ leP (lk l) (x, 1)
  wt : ∀ v ∈ s.wait, ∃ l, gv s.found v = some l
  low : ∀ v l, gv s.found v = some l → ∃ y x, gv L y = some x ∧ x + p y ≤ l.1 + p v
def Done4 (t : T) (s : S) (v : Int) : Prop := ∀ l, gv s.found v = some l → rm t v ≤ 0 → ∀ b c r, gv (moves t v) b = some (c, r) → ∃ l', gv s.found b = some l' ∧ leP (lk l') (l.1 + c, l.2.1 + 1)
structure LeS (s s' : S) : Prop where
  le : ∀ v l, gv s.found v = some l → ∃ l', gv s'.found v = some l' ∧ leP (lk l') (lk l)
  wt : ∀ v ∈ s.wait, v ∈ s'.wait
  ch : ∀ v, gv s'.found v = gv s.found v ∨ v ∈ s'.wait
theorem LeS.refl (s : S) : LeS s s := ⟨fun v l e => ⟨l, e, leP.refl _⟩, fun _ h => h, fun _ => .inl rfl⟩
theorem LeS.trans {a b c : S} (h : LeS a b) (g : LeS b c) : LeS a c := ⟨fun v l e => by
    obtain ⟨l', e', q⟩ := h.le v l e
    obtain ⟨l2, e2, q2⟩ := g.le v l' e'
    exact ⟨l2, e2, q2.trans q⟩, fun v m => g.wt v (h.wt v m), fun v => by
    rcases g.ch v with z | z
    · rcases h.ch v with y | y
      · exact .inl (z.trans y)
      · exact .inr (g.wt v y)
    · exact .inr z⟩
theorem LeS.done4 {t : T} {s s' : S} (h : LeS s s') {v : Int} (hv : gv s'.found v = gv s.found v) (d : Done4 t s v) : Done4 t s' v := fun l e r b c r' m => by
  obtain ⟨l', e', q⟩ := d l (by rw [← hv]; exact e) r b c r' m
  obtain ⟨l2, e2, q2⟩ := h.le b l' e'
  exact ⟨l2, e2, q2.trans q⟩
/-- some label fell -/
def LtS (n : Nat) (s s' : S) : Prop := ∃ v : Int, (0 ≤ v ∧ v < n) ∧ ∃ l', gv s'.found v = some l' ∧ (gv s.found v = none ∨ ∃ l, gv s.found v = some l ∧ ltP (lk l') (lk l) = true)
theorem LtS.next {n : Nat} {a b c : S} (h : LtS n a b) (g : LeS b c) : LtS n a c := by
  obtain ⟨v, r, l', e, q⟩ := h
  obtain ⟨l2, e2, q2⟩ := g.le v l' e
  refine ⟨v, r, l2, e2, ?_⟩
  rcases q with q | ⟨l, e1, q⟩
  · exact .inl q
  · refine .inr ⟨l, e1, ?_⟩
    rw [ltP_iff] at q ⊢
    unfold leP at q2
    omega
theorem LtS.prev {n : Nat} {a b c : S} (h : LeS a b) (g : LtS n b c) : LtS n a c := by
  obtain ⟨v, r, l', e, q⟩ := g
  refine ⟨v, r, l', e, ?_⟩
  cases ea : gv a.found v with
  | none => exact .inl rfl
  | some l =>
    obtain ⟨l2, e2, q2⟩ := h.le v l ea
    rcases q with q | ⟨l3, e3, q⟩
    · rw [e2] at q; cases q
    · rw [e2] at e3; cases e3
      refine .inr ⟨l, rfl, ?_⟩
      rw [ltP_iff] at q ⊢
      unfold leP at q2
      omega
section
variable {t : T} {p : Int → Int} {L : Row} {ℓ : Int}
theorem offer1_ok (W : Wf t) (hp : Pot t p) {s : S} {a : Int} {l : Lb} {m : Int × Int × Int} (I : SI t p L ℓ s) (ea : gv s.found a = some l) (ra : rm t a ≤ 0) (hm : gv (moves t a) m.1 = some m.2) :
    SI t p L ℓ (offer1 a l s m) ∧ LeS s (offer1 a l s m) ∧ gv (offer1 a l s m).found a = some l ∧ (∃ l', gv (offer1 a l s m).found m.1 = some l' ∧ leP (lk l') (l.1 + m.2.1, l.2.1 + 1)) ∧ (offer1 a l s m = s ∨ LtS t.room.length s (offer1 a l s m)) := by
  obtain ⟨b, c, r⟩ := m
  have hm : gv (moves t a) b = some (c, r) := hm
  obtain ⟨i, rfl, ar⟩ := moves_arc.2 b c r hm
  have hba : b ≠ a := by obtain ⟨P, Q, _, _, _, _, h, _⟩ := ar; exact h
  obtain ⟨_, rb⟩ := W.arc ar
  unfold offer1
  by_cases hb : better s.found b (l.1 + c, l.2.1 + 1) = true
  · rw [if_pos hb]
    have hlt : gv s.found b = none ∨ ∃ l0, gv s.found b = some l0 ∧ ltP (l.1 + c, l.2.1 + 1) (lk l0) = true := by
      unfold better at hb
      cases e : gv s.found b with
      | none => exact .inl rfl
      | some l0 => rw [e] at hb; exact .inr ⟨l0, rfl, hb⟩
    let o : Lb := (l.1 + c, l.2.1 + 1, (i : Int), some a)
    have eo : (l.1 + c, l.2.1 + 1, (i : Int), some a) = o := rfl
    have g1 : ∀ v, gv (pt s.found b o) v = if b = v then some o else gv s.found v := fun v => gv_pt _ _ _ _
    have mono : ∀ v l0, gv s.found v = some l0 → ∃ l', gv (pt s.found b o) v = some l' ∧ leP (lk l') (lk l0) := fun v l0 e => by
      rw [g1]
      by_cases z : b = v
      · rw [if_pos z]
        subst z
        refine ⟨o, rfl, ?_⟩
        rcases hlt with q | ⟨l1, e1, q⟩
        · rw [e] at q; cases q
        · rw [e] at e1; cases e1; exact ltP_le q
      · rw [if_neg z]; exact ⟨l0, e, leP.refl _⟩
    have ga : gv (pt s.found b o) a = some l := by rw [g1, if_neg hba]; exact ea
    refine ⟨⟨nd_pt _ _ I.nd, fun v l0 e => ?_, fun v l0 e => ?_, fun v c0 k0 r0 e => ?_, fun v c0 k0 r0 a0 e => ?_, fun v x e => ?_, fun v hv => ?_, fun v l0 e => ?_⟩, ⟨mono, fun v hv => List.mem_append_left _ hv, fun v => ?_⟩, ga, ⟨o, by show gv (pt s.found b o) b = _; rw [g1, if_pos rfl], leP.refl _⟩, .inr ⟨b, rb, o, by show gv (pt s.found b o) b = _; rw [g1, if_pos rfl], ?_⟩⟩
    · have e : gv (pt s.found b o) v = some l0 := e
      rw [g1] at e
      by_cases z : b = v
      · rw [← z]; exact rb
      · rw [if_neg z] at e; exact I.rng v l0 e
    · have e : gv (pt s.found b o) v = some l0 := e
      rw [g1] at e
      by_cases z : b = v
      · rw [if_pos z] at e; cases e
        have := I.one a l ea
        show 1 ≤ l.2.1 + 1
        omega
      · rw [if_neg z] at e; exact I.one v l0 e
    · have e : gv (pt s.found b o) v = _ := e
      rw [g1] at e
      by_cases z : b = v
      · rw [if_pos z, ← eo] at e; cases e
      · rw [if_neg z] at e; exact I.fst v c0 k0 r0 e
    · have e : gv (pt s.found b o) v = _ := e
      rw [g1] at e
      by_cases z : b = v
      · rw [if_pos z, ← eo] at e
        cases e
        subst z
        exact ⟨l, i, c, ga, rfl, ar, ra, leP.refl _⟩
      · rw [if_neg z] at e
        obtain ⟨l1, i1, x1, e1, er, ar1, rr, le⟩ := I.nxt v c0 k0 r0 a0 e
        obtain ⟨l2, e2, q2⟩ := mono a0 l1 e1
        exact ⟨l2, i1, x1, e2, er, ar1, rr, (q2.add x1 1).trans le⟩
    · obtain ⟨l1, e1, q1⟩ := I.top v x e
      obtain ⟨l2, e2, q2⟩ := mono v l1 e1
      exact ⟨l2, e2, q2.trans q1⟩
    · rcases List.mem_append.mp hv with h | h
      · obtain ⟨l1, e1⟩ := I.wt v h
        obtain ⟨l2, e2, _⟩ := mono v l1 e1
        exact ⟨l2, e2⟩
      · have : v = b := by simpa using h
        subst this
        exact ⟨o, by show gv (pt s.found v o) v = _; rw [g1, if_pos rfl]⟩
    · have e : gv (pt s.found b o) v = some l0 := e
      rw [g1] at e
      by_cases z : b = v
      · rw [if_pos z] at e; cases e
        subst z
        obtain ⟨y, x, e1, q⟩ := I.low a l ea
        have := hp.tight _ _ _ _ ar
        exact ⟨y, x, e1, by show x + p y ≤ (l.1 + c) + p b; omega⟩
      · rw [if_neg z] at e; exact I.low v l0 e
    · show gv (pt s.found b o) v = _ ∨ v ∈ s.wait ++ [b]
      rw [g1]
      by_cases z : b = v
      · exact .inr (List.mem_append_right _ (by rw [z]; exact List.mem_cons_self))
      · rw [if_neg z]; exact .inl rfl
    · rcases hlt with q | ⟨l1, e1, q⟩
      · exact .inl q
      · exact .inr ⟨l1, e1, q⟩
  · rw [if_neg hb]
    refine ⟨I, .refl _, ea, ?_, .inl rfl⟩
    unfold better at hb
    cases e : gv s.found b with
    | none => rw [e] at hb; exact absurd rfl hb
    | some l0 => rw [e] at hb; exact ⟨l0, rfl, not_ltP hb⟩
theorem fold_ok (W : Wf t) (hp : Pot t p) {a : Int} {l : Lb} (ra : rm t a ≤ 0) : ∀ {ms : Mv} {s : S}, SI t p L ℓ s → gv s.found a = some l → (∀ m ∈ ms, gv (moves t a) m.1 = some m.2) →
    SI t p L ℓ (ms.foldl (offer1 a l) s) ∧ LeS s (ms.foldl (offer1 a l) s) ∧ gv (ms.foldl (offer1 a l) s).found a = some l ∧ (∀ m ∈ ms, ∃ l', gv (ms.foldl (offer1 a l) s).found m.1 = some l' ∧ leP (lk l') (l.1 + m.2.1, l.2.1 + 1)) ∧ (ms.foldl (offer1 a l) s = s ∨ LtS t.room.length s (ms.foldl (offer1 a l) s))
  | [], s, I, ea, _ => ⟨I, .refl _, ea, (fun m h => by cases h), .inl rfl⟩
  | m :: ms, s, I, ea, hm => by
    obtain ⟨I1, le1, ea1, d1, ch1⟩ := offer1_ok W hp I ea ra (hm m List.mem_cons_self)
    obtain ⟨I2, le2, ea2, d2, ch2⟩ := fold_ok W hp ra I1 ea1 fun m' h => hm m' (List.mem_cons_of_mem _ h)
    rw [List.foldl_cons]
    refine ⟨I2, le1.trans le2, ea2, fun m' h => ?_, ?_⟩
    · rcases List.mem_cons.mp h with z | z
      · subst z
        obtain ⟨l', e', q⟩ := d1
        obtain ⟨l2, e2, q2⟩ := le2.le _ _ e'
        exact ⟨l2, e2, q2.trans q⟩
      · exact d2 m' z
    · rcases ch2 with z | z
      · rw [z]; exact ch1
      · exact .inr (z.prev le1)
/-- the whole invariant -/
def Inv (t : T) (p : Int → Int) (L : Row) (ℓ : Int) (s : S) : Prop := SI t p L ℓ s ∧ ∀ v, ¬ v ∈ s.wait → Done4 t s v
theorem SI.pop {s : S} {a : Int} {w : List Int} (I : SI t p L ℓ s) (e : s.wait = a :: w) : SI t p L ℓ ⟨s.found, w⟩ := ⟨I.nd, I.rng, I.one, I.fst, I.nxt, I.top, fun v h => I.wt v (by rw [e]; exact List.mem_cons_of_mem _ h), I.low⟩
theorem step_ok (W : Wf t) (hp : Pot t p) {s : S} (h : Inv t p L ℓ s) : Inv t p L ℓ (stepS t s) ∧ (∀ v l, gv s.found v = some l → ∃ l', gv (stepS t s).found v = some l' ∧ leP (lk l') (lk l)) ∧
    (s.wait = [] ∨ (stepS t s).found = s.found ∧ (stepS t s).wait.length < s.wait.length ∨ LtS t.room.length s (stepS t s)) := by
  obtain ⟨I, d4⟩ := h
  cases e : s.wait with
  | nil =>
    rw [show stepS t s = s by unfold stepS; rw [e]]
    exact ⟨⟨I, d4⟩, fun v l q => ⟨l, q, leP.refl _⟩, .inl rfl⟩
  | cons a w =>
    rw [show stepS t s = if 0 < rm t a then ⟨s.found, w⟩ else expand t a ⟨s.found, w⟩ by unfold stepS; rw [e]]
    have Ip := I.pop e
    by_cases hr : 0 < rm t a
    · simp only [if_pos hr]
      refine ⟨⟨Ip, fun v hv => ?_⟩, fun v l q => ⟨l, q, leP.refl _⟩, .inr (.inl ⟨trivial, by simp⟩)⟩
      by_cases z : v = a
      · subst z; intro l _ r; omega
      · exact d4 v (by rw [e]; intro q; rcases List.mem_cons.mp q with y | y
                       · exact z y
                       · exact hv y)
    · simp only [if_neg hr]
      obtain ⟨l, ea⟩ := I.wt a (by rw [e]; exact List.mem_cons_self)
      have ex : expand t a ⟨s.found, w⟩ = (moves t a).foldl (offer1 a l) ⟨s.found, w⟩ := by unfold expand; simp only [ea]
      rw [ex]
      have nd := (moves_arc (t := t) (a := a)).1
      obtain ⟨I2, le, ea2, d, ch⟩ := fold_ok W hp (by omega : rm t a ≤ 0) (ms := moves t a) Ip ea fun m h => gv_of_mem nd h
      refine ⟨⟨I2, fun v hv => ?_⟩, fun v l0 q => le.le v l0 q, ?_⟩
      · by_cases z : v = a
        · subst z
          intro l0 e0 _ b c r m
          rw [ea2] at e0; cases e0
          exact d (b, c, r) (gv_mem m)
        · have hv' : ¬ v ∈ w := fun q => hv (le.wt v q)
          have dv : Done4 t s v := d4 v (by rw [e]; intro q; rcases List.mem_cons.mp q with y | y
                                            · exact z y
                                            · exact hv' y)
          refine le.done4 ?_ (fun l0 e0 r b c r' m => dv l0 e0 r b c r' m)
          rcases le.ch v with y | y
          · exact y
          · exact absurd y hv
      · rcases ch with z | z
        · refine .inr (.inl ⟨by rw [z], by rw [z]; show w.length < (a :: w).length; simp⟩)
        · exact .inr (.inr z)
/-! ### it ends -/
abbrev N3 := Nat × Nat × Nat
def Vec : Nat → Type
  | 0 => Unit
  | n + 1 => N3 × Vec n
instance wfv : (n : Nat) → WellFoundedRelation (Vec n)
  | 0 => emptyWf
  | n + 1 => @Prod.instWellFoundedRelation N3 (Vec n) inferInstance (wfv n)
def vec (f : Nat → N3) : (n : Nat) → Vec n
  | 0 => ()
  | n + 1 => (f n, vec f n)
def lt3 (a b : N3) : Prop := WellFoundedRelation.rel a b
theorem lt3_of {a b : N3} (h : a.1 < b.1 ∨ (a.1 = b.1 ∧ (a.2.1 < b.2.1 ∨ (a.2.1 = b.2.1 ∧ a.2.2 < b.2.2)))) : lt3 a b := by
  obtain ⟨a1, a2, a3⟩ := a
  obtain ⟨b1, b2, b3⟩ := b
  simp only at h
  rcases h with h | ⟨rfl, h | ⟨rfl, h⟩⟩
  · exact Prod.Lex.left _ _ h
  · exact Prod.Lex.right _ (Prod.Lex.left _ _ h)
  · exact Prod.Lex.right _ (Prod.Lex.right _ h)
theorem vec_le {f g : Nat → N3} : ∀ {n : Nat}, (∀ v, v < n → f v = g v ∨ lt3 (f v) (g v)) → vec f n = vec g n ∨ (wfv n).rel (vec f n) (vec g n)
  | 0, _ => .inl rfl
  | n + 1, h => by
    rcases h n (Nat.lt_succ_self n) with z | z
    · rcases vec_le (n := n) fun v hv => h v (Nat.lt_succ_of_lt hv) with y | y
      · exact .inl (by show (f n, vec f n) = (g n, vec g n); rw [z, y])
      · refine .inr ?_
        show Prod.Lex _ _ (f n, vec f n) (g n, vec g n)
        rw [z]
        exact Prod.Lex.right _ y
    · exact .inr (Prod.Lex.left _ _ z)
theorem vec_lt {f g : Nat → N3} : ∀ {n : Nat}, (∀ v, v < n → f v = g v ∨ lt3 (f v) (g v)) → (∃ v, v < n ∧ lt3 (f v) (g v)) → (wfv n).rel (vec f n) (vec g n)
  | 0, _, h => by obtain ⟨v, h, _⟩ := h; omega
  | n + 1, h, ⟨v, hv, q⟩ => by
    rcases h n (Nat.lt_succ_self n) with z | z
    · by_cases e : v = n
      · subst e; exact Prod.Lex.left _ _ q
      · have := vec_lt (n := n) (fun v hv => h v (Nat.lt_succ_of_lt hv)) ⟨v, by omega, q⟩
        show Prod.Lex _ _ (f n, vec f n) (g n, vec g n)
        rw [z]
        exact Prod.Lex.right _ this
    · exact Prod.Lex.left _ _ z
def code (p : Int → Int) (B : Int) (F : List (Int × Lb)) (v : Nat) : N3 := match gv F (v : Int) with
  | none => (1, 0, 0)
  | some l => (0, (l.1 + p v - B).toNat, l.2.1.toNat)
theorem low_ex (p : Int → Int) : ∀ L : Row, ∃ B, ∀ y x, gv L y = some x → B ≤ x + p y
  | [] => ⟨0, fun y x e => by cases e⟩
  | e :: L => by
    obtain ⟨B, h⟩ := low_ex p L
    refine ⟨min B (e.2 + p e.1), fun y x q => ?_⟩
    unfold gv at q
    by_cases z : e.1 = y
    · rw [if_pos z] at q; cases q; subst z; omega
    · rw [if_neg z] at q; have := h y x q; omega
theorem code_le {s s' : S} {B : Int} (hB : ∀ y x, gv L y = some x → B ≤ x + p y) (I : SI t p L ℓ s) (I' : SI t p L ℓ s') (le : ∀ v l, gv s.found v = some l → ∃ l', gv s'.found v = some l' ∧ leP (lk l') (lk l)) (v : Nat) :
    code p B s'.found v = code p B s.found v ∨ lt3 (code p B s'.found v) (code p B s.found v) := by
  unfold code
  cases e : gv s.found (v : Int) with
  | none =>
    cases e' : gv s'.found (v : Int) with
    | none => exact .inl rfl
    | some l => exact .inr (lt3_of (.inl (show (0 : Nat) < 1 by decide)))
  | some l =>
    obtain ⟨l', e', q⟩ := le _ _ e
    rw [e']
    obtain ⟨y, x, e1, q1⟩ := I.low _ _ e
    obtain ⟨y', x', e1', q1'⟩ := I'.low _ _ e'
    have b1 := hB _ _ e1
    have b2 := hB _ _ e1'
    have o1 := I.one _ _ e
    have o2 := I'.one _ _ e'
    unfold leP at q
    simp only at q ⊢
    by_cases z : l'.1 = l.1 ∧ l'.2.1 = l.2.1
    · left; rw [z.1, z.2]
    · exact .inr (lt3_of (.inr ⟨rfl, by simp only; omega⟩))
theorem code_lt {s s' : S} {B : Int} (hB : ∀ y x, gv L y = some x → B ≤ x + p y) (I : SI t p L ℓ s) (I' : SI t p L ℓ s') (h : LtS t.room.length s s') : ∃ v : Nat, v < t.room.length ∧ lt3 (code p B s'.found v) (code p B s.found v) := by
  obtain ⟨v, r, l', e', q⟩ := h
  refine ⟨v.toNat, by omega, ?_⟩
  have ev : ((v.toNat : Nat) : Int) = v := by omega
  unfold code
  rw [ev, e']
  rcases q with q | ⟨l, e, q⟩
  · rw [q]; exact lt3_of (.inl (by simp))
  · rw [e]
    obtain ⟨y, x, e1, q1⟩ := I.low _ _ e
    obtain ⟨y', x', e1', q1'⟩ := I'.low _ _ e'
    have b1 := hB _ _ e1
    have b2 := hB _ _ e1'
    have o1 := I.one _ _ e
    have o2 := I'.one _ _ e'
    rw [ltP_iff] at q
    refine lt3_of (.inr ⟨rfl, ?_⟩)
    simp only at q ⊢
    omega
theorem ends (W : Wf t) (hp : Pot t p) {s : S} (h : Inv t p L ℓ s) : ∃ n, (stepN t n s).wait = [] := by
  obtain ⟨B, hB⟩ := low_ex p L
  let μ : S → Vec t.room.length × Nat := fun s => (vec (code p B s.found) t.room.length, s.wait.length)
  have wf : WellFounded (InvImage (@Prod.instWellFoundedRelation _ _ (wfv t.room.length) inferInstance).rel μ) := InvImage.wf μ (@Prod.instWellFoundedRelation _ _ (wfv t.room.length) inferInstance).wf
  induction s using wf.induction with
  | _ s ih =>
    obtain ⟨h', le, ch⟩ := step_ok W hp h
    rcases ch with z | ⟨z1, z2⟩ | z
    · exact ⟨0, z⟩
    · obtain ⟨n, e⟩ := ih (stepS t s) (by
        show Prod.Lex _ _ (vec (code p B (stepS t s).found) t.room.length, (stepS t s).wait.length) (vec (code p B s.found) t.room.length, s.wait.length)
        rw [z1]
        exact Prod.Lex.right _ z2) h'
      exact ⟨n + 1, e⟩
    · obtain ⟨n, e⟩ := ih (stepS t s) (by
        refine Prod.Lex.left _ _ ?_
        obtain ⟨v, hv, q⟩ := code_lt hB h.1 h'.1 z
        exact vec_lt (fun v _ => code_le hB h.1 h'.1 le v) ⟨v, hv, q⟩) h'
      exact ⟨n + 1, e⟩
theorem stepN_ok (W : Wf t) (hp : Pot t p) : ∀ {n : Nat} {s : S}, Inv t p L ℓ s → Inv t p L ℓ (stepN t n s)
  | 0, _, h => h
  | n + 1, _, h => stepN_ok W hp (n := n) (step_ok W hp h).1
theorem gv_init (L : Row) (ℓ : Int) (v : Int) : gv (init L ℓ).found v = (gv L v).map fun x => (x, 1, ℓ, none) := by
  unfold init
  induction L with
  | nil => rfl
  | cons e L ih =>
    show (if e.1 = v then _ else _) = _
    conv => rhs; unfold gv
    by_cases z : e.1 = v
    · rw [if_pos z, if_pos z]; rfl
    · rw [if_neg z, if_neg z]; exact ih
theorem init_ok (hL : (ks L).Nodup) (hr : ∀ k ∈ ks L, 0 ≤ k ∧ k < t.room.length) : Inv t p L ℓ (init L ℓ) := by
  have g := gv_init L ℓ
  have op : ∀ v l, gv (init L ℓ).found v = some l → ∃ x, gv L v = some x ∧ l = (x, 1, ℓ, none) := fun v l e => by
    rw [g] at e
    obtain ⟨x, e1, rfl⟩ := Option.map_eq_some_iff.mp e
    exact ⟨x, e1, rfl⟩
  have nw : ∀ v, ¬ v ∈ ks L → gv L v = none := fun v hv => by
    cases e : gv L v with
    | none => rfl
    | some x => exact absurd (gv_ks e) hv
  refine ⟨⟨?_, fun v l e => ?_, fun v l e => ?_, fun v c k r e => ?_, fun v c k r a e => ?_, fun v x e => ?_, fun v hv => ?_, fun v l e => ?_⟩, fun v hv l e => ?_⟩
  · show ((L.map _).map _).Nodup
    rw [List.map_map]
    exact hL
  · obtain ⟨x, e1, _⟩ := op v l e; exact hr v (gv_ks e1)
  · obtain ⟨x, e1, rfl⟩ := op v l e; exact Int.le_refl _
  · obtain ⟨x, e1, q⟩ := op v _ e; cases q; exact ⟨rfl, rfl, e1⟩
  · obtain ⟨x, e1, q⟩ := op v _ e; cases q
  · exact ⟨(x, 1, ℓ, none), by rw [g, e]; rfl, leP.refl _⟩
  · have hv : v ∈ ks L := hv
    obtain ⟨x, e⟩ := gv_of_ks hv
    exact ⟨(x, 1, ℓ, none), by rw [g, e]; rfl⟩
  · obtain ⟨x, e1, rfl⟩ := op v l e; exact ⟨v, x, e1, Int.le_refl _⟩
  · obtain ⟨x, e1, _⟩ := op v l e
    exact absurd (gv_ks e1) hv
end
end Tr
end Pv

/-! The search's end, the way, what a push does. -/
namespace Pv
namespace Tr
structure Fin (t : T) (L : Row) (ℓ : Int) (F : List (Int × Lb)) : Prop where
  nd : (ks F).Nodup
  rng : ∀ v l, gv F v = some l → 0 ≤ v ∧ v < t.room.length
  one : ∀ v l, gv F v = some l → 1 ≤ l.2.1
  fst : ∀ v c k r, gv F v = some (c, k, r, none) → r = ℓ ∧ gv L v = some c
  nxt : ∀ v c k r a, gv F v = some (c, k, r, some a) → ∃ l i x, gv F a = some l ∧ r = (i : Nat) ∧ Arc t i a v x ∧ rm t a ≤ 0 ∧ c = l.1 + x ∧ k = l.2.1 + 1
  top : ∀ v x, gv L v = some x → ∃ l, gv F v = some l ∧ l.1 ≤ x
  arc : ∀ a l, gv F a = some l → rm t a ≤ 0 → ∀ i b x, Arc t i a b x → ∃ l', gv F b = some l' ∧ l'.1 ≤ l.1 + x
section
variable {t : T} {p : Int → Int} {L : Row} {ℓ : Int}
theorem leP1 {a b : Int × Int} (h : leP a b) : a.1 ≤ b.1 := by unfold leP at h; omega
theorem Inv.fin {s : S} (h : Inv t p L ℓ s) (e : s.wait = []) : Fin t L ℓ s.found := by
  obtain ⟨I, d4⟩ := h
  have d4 : ∀ v, Done4 t s v := fun v => d4 v (by rw [e]; simp)
  have arc : ∀ a l, gv s.found a = some l → rm t a ≤ 0 → ∀ i b x, Arc t i a b x → ∃ l', gv s.found b = some l' ∧ leP (lk l') (l.1 + x, l.2.1 + 1) := fun a l ea ra i b x ar => by
    obtain ⟨c, r, em, hc⟩ := moves_le ar
    obtain ⟨l', e', q⟩ := d4 a l ea ra b c r em
    refine ⟨l', e', q.trans ?_⟩
    unfold leP; simp only; omega
  refine ⟨I.nd, I.rng, I.one, fun v c k r e => ⟨(I.fst v c k r e).1, (I.fst v c k r e).2.2⟩, fun v c k r a e => ?_, fun v x e => ?_, fun a l ea ra i b x ar => ?_⟩
  · obtain ⟨l, i, x, e1, er, ar, ra, q⟩ := I.nxt v c k r a e
    obtain ⟨l', e', q'⟩ := arc a l e1 ra i v x ar
    rw [e] at e'; cases e'
    unfold leP at q q'
    simp only at q q'
    exact ⟨l, i, x, e1, er, ar, ra, by omega, by omega⟩
  · obtain ⟨l, e1, q⟩ := I.top v x e
    exact ⟨l, e1, leP1 q⟩
  · obtain ⟨l', e', q⟩ := arc a l ea ra i b x ar
    exact ⟨l', e', leP1 q⟩
/-! ### the way -/
abbrev Step := Int × Option Int × Int
inductive Way (F : List (Int × Lb)) : Int → List Step → Prop
  | one {v c k r} : gv F v = some (c, k, r, none) → Way F v [(r, none, v)]
  | more {v c k r a st} : gv F v = some (c, k, r, some a) → Way F a st → Way F v ((r, some a, v) :: st)
def wayN (F : List (Int × Lb)) : Nat → Int → List Step
  | 0, _ => []
  | n + 1, v => match gv F v with
    | none => []
    | some (_, _, r, none) => [(r, none, v)]
    | some (_, _, r, some a) => (r, some a, v) :: wayN F n a
theorem way_ok {F : List (Int × Lb)} (f : Fin t L ℓ F) : ∀ {n : Nat} {v : Int} {l : Lb}, gv F v = some l → l.2.1 ≤ n → Way F v (wayN F n v)
  | 0, v, l, e, h => by have := f.one v l e; omega
  | n + 1, v, (c, k, r, none), e, h => by
    unfold wayN; rw [e]; exact .one e
  | n + 1, v, (c, k, r, some a), e, h => by
    unfold wayN; rw [e]
    obtain ⟨l, i, x, e1, _, _, _, _, ek⟩ := f.nxt v c k r a e
    exact .more e (way_ok f e1 (by simp only at h; omega))
def way (F : List (Int × Lb)) (v : Int) : List Step := match gv F v with
  | none => []
  | some l => wayN F l.2.1.toNat v
theorem way_is {F : List (Int × Lb)} (f : Fin t L ℓ F) {v : Int} {l : Lb} (e : gv F v = some l) : Way F v (way F v) := by
  unfold way; rw [e]
  exact way_ok f e (by have := f.one v l e; omega)
theorem Way.uniq {F : List (Int × Lb)} {v : Int} {st st' : List Step} (h : Way F v st) (g : Way F v st') : st = st' := by
  induction h generalizing st' with
  | one e =>
    cases g with
    | one e' => rw [e] at e'; cases e'; rfl
    | more e' _ => rw [e] at e'; cases e'
  | more e _ ih =>
    cases g with
    | one e' => rw [e] at e'; cases e'
    | more e' g' => rw [e] at e'; cases e'; rw [ih g']
theorem Way.low {F : List (Int × Lb)} (f : Fin t L ℓ F) {v : Int} {st : List Step} (h : Way F v st) : ∀ x ∈ st, ∃ l l', gv F v = some l ∧ gv F x.2.2 = some l' ∧ l'.2.1 ≤ l.2.1 := by
  induction h with
  | @one v c k r e => intro x hx; have : x = (r, none, v) := by simpa using hx
                      subst this; exact ⟨_, _, e, e, Int.le_refl _⟩
  | @more v c k r a st e g ih =>
    intro x hx
    rcases List.mem_cons.mp hx with z | z
    · subst z; exact ⟨_, _, e, e, Int.le_refl _⟩
    · obtain ⟨l, l', e1, e2, q⟩ := ih x z
      obtain ⟨l0, i, y, e3, _, _, _, _, ek⟩ := f.nxt v c k r a e
      rw [e1] at e3; cases e3
      exact ⟨_, l', e, e2, by simp only; omega⟩
theorem Way.stops {F : List (Int × Lb)} (f : Fin t L ℓ F) {v : Int} {st : List Step} (h : Way F v st) : (st.map (·.2.2)).Nodup := by
  induction h with
  | one e => exact List.nodup_cons.mpr ⟨by simp, List.nodup_nil⟩
  | @more v c k r a st e g ih =>
    refine List.nodup_cons.mpr ⟨fun m => ?_, ih⟩
    obtain ⟨x, hx, ex⟩ := List.mem_map.mp m
    obtain ⟨l, l', e1, e2, q⟩ := g.low f x hx
    obtain ⟨l0, i, y, e3, _, _, _, _, ek⟩ := f.nxt v c k r a e
    rw [e1] at e3; cases e3
    have ex : x.2.2 = v := ex
    rw [ex, e] at e2; cases e2
    simp only at q; omega
/-- the starts are the stops behind the first one -/
theorem Way.starts {F : List (Int × Lb)} {v : Int} {st : List Step} (h : Way F v st) : st.filterMap (·.2.1) = (st.map (·.2.2)).tail := by
  induction h with
  | one e => rfl
  | more e g ih =>
    show _ :: List.filterMap _ _ = List.map _ _
    rw [ih]
    cases g with
    | one _ => rfl
    | more _ _ => rfl
theorem Way.startsNd {F : List (Int × Lb)} (f : Fin t L ℓ F) {v : Int} {st : List Step} (h : Way F v st) : (st.filterMap (·.2.1)).Nodup := by
  rw [h.starts]
  have := h.stops f
  cases hs : st.map (·.2.2) with
  | nil => exact List.nodup_nil
  | cons a l => rw [hs] at this; exact (List.nodup_cons.mp this).2
/-- what a step is -/
def StepOk (t : T) (L : Row) (ℓ : Int) (F : List (Int × Lb)) (x : Step) : Prop := ∃ l, gv F x.2.2 = some l ∧ match x.2.1 with
  | none => x.1 = ℓ ∧ gv L x.2.2 = some l.1
  | some a => ∃ l0 i y, gv F a = some l0 ∧ x.1 = (i : Nat) ∧ Arc t i a x.2.2 y ∧ rm t a ≤ 0 ∧ l.1 = l0.1 + y
theorem Way.each {F : List (Int × Lb)} (f : Fin t L ℓ F) {v : Int} {st : List Step} (h : Way F v st) : ∀ x ∈ st, StepOk t L ℓ F x := by
  induction h with
  | @one v c k r e =>
    intro x hx
    have : x = (r, none, v) := by simpa using hx
    subst this
    obtain ⟨h1, h2⟩ := f.fst _ _ _ _ e
    exact ⟨_, e, h1, h2⟩
  | @more v c k r a st e g ih =>
    intro x hx
    rcases List.mem_cons.mp hx with z | z
    · subst z
      obtain ⟨l0, i, y, e3, er, ar, ra, ec, _⟩ := f.nxt v c k r a e
      exact ⟨_, e, l0, i, y, e3, er, ar, ra, ec⟩
    · exact ih x z
/-- the columns on the way are worth no more than what the way still costs -/
theorem Way.pot {F : List (Int × Lb)} (f : Fin t L ℓ F) (hp : Pot t p) {D : Int} {v : Int} {st : List Step} (h : Way F v st) : (∀ l, gv F v = some l → p v ≤ D - l.1) → ∀ x ∈ st, ∀ l, gv F x.2.2 = some l → p x.2.2 ≤ D - l.1 := by
  induction h with
  | @one v c k r e =>
    intro h0 x hx
    have : x = (r, none, v) := by simpa using hx
    subst this
    exact h0
  | @more v c k r a st e g ih =>
    intro h0 x hx
    rcases List.mem_cons.mp hx with z | z
    · subst z; exact h0
    · refine ih (fun l el => ?_) x z
      obtain ⟨l0, i, y, e3, er, ar, ra, ec, _⟩ := f.nxt v c k r a e
      rw [el] at e3; cases e3
      have h1 := h0 _ e
      have h2 := hp.tight _ _ _ _ ar
      simp only at h1; omega
end
/-! ### what a push does -/
def addN (P : List Row) (i : Nat) (c d : Int) : List Row := match P[i]? with
  | none => P
  | some r => P.set i (pt r c (num r c + d))
def pushOne (d : Int) (P : List Row) (x : Step) : List Row := match x.2.1 with
  | none => addN P x.1.toNat x.2.2 d
  | some a => addN (addN P x.1.toNat x.2.2 d) x.1.toNat a (-d)
def numAt (P : List Row) (i : Nat) (c : Int) : Int := match P[i]? with
  | none => 0
  | some r => num r c
theorem numAt_of {P : List Row} {i : Nat} {r : Row} (e : P[i]? = some r) (c : Int) : numAt P i c = num r c := by unfold numAt; rw [e]
theorem addN_get (P : List Row) (i : Nat) (c d : Int) (j : Nat) : (addN P i c d)[j]? = if i = j then (P[i]?).map (fun r => pt r c (num r c + d)) else P[j]? := by
  unfold addN
  cases e : P[i]? with
  | none =>
    by_cases h : i = j
    · rw [if_pos h, ← h]; exact e
    · rw [if_neg h]
  | some r =>
    show (P.set i _)[j]? = _
    rw [List.getElem?_set]
    have hi : i < P.length := (List.getElem?_eq_some_iff.mp e).1
    by_cases h : i = j
    · rw [if_pos h, if_pos h, if_pos (by omega)]; rfl
    · rw [if_neg h, if_neg h]
theorem addN_len (P : List Row) (i : Nat) (c d : Int) : (addN P i c d).length = P.length := by
  unfold addN; split
  · rfl
  · rw [List.length_set]
theorem addN_num {P : List Row} {i : Nat} {c d : Int} (hi : i < P.length) (j : Nat) (e : Int) : numAt (addN P i c d) j e = if i = j ∧ c = e then numAt P j e + d else numAt P j e := by
  unfold numAt
  rw [addN_get]
  by_cases h : i = j
  · subst h
    rw [if_pos rfl, List.getElem?_eq_getElem hi]
    show num (pt _ c _) e = _
    rw [num_pt]
    by_cases z : c = e
    · rw [if_pos z, if_pos ⟨rfl, z⟩, z]
    · rw [if_neg z, if_neg (fun q => z q.2)]
  · rw [if_neg h, if_neg (fun q => h q.1)]
theorem addN_ks {P : List Row} {i : Nat} {c d : Int} (hc : ∀ r, P[i]? = some r → c ∈ ks r) (j : Nat) : ((addN P i c d)[j]?).map ks = (P[j]?).map ks := by
  rw [addN_get]
  by_cases h : i = j
  · subst h
    rw [if_pos rfl]
    cases e : P[i]? with
    | none => rfl
    | some r =>
      show some (ks (pt r c _)) = some (ks r)
      rw [ks_pt, if_pos (hc r e)]
  · rw [if_neg h]
def rs (r : Row) : Int := (r.map (·.2)).sum
theorem rs_pt {r : Row} {k : Int} (nd : (ks r).Nodup) (h : k ∈ ks r) (v : Int) : rs (pt r k v) = rs r - num r k + v := by
  induction r with
  | nil => cases h
  | cons e r ih =>
    obtain ⟨n1, n2⟩ := List.nodup_cons.mp nd
    unfold pt num gv
    by_cases z : e.1 = k
    · rw [if_pos z, if_pos z]
      show v + rs r = (e.2 + rs r) - e.2 + v
      omega
    · rw [if_neg z, if_neg z]
      have hk : k ∈ ks r := by
        rcases List.mem_cons.mp h with y | y
        · exact absurd y.symm z
        · exact y
      have := ih n2 hk
      show e.2 + rs (pt r k v) = (e.2 + rs r) - num r k + v
      omega
def colS (P : List Row) (c : Int) : Int := (P.map fun r => num r c).sum
theorem sum_set {α : Type} (f : α → Int) : ∀ {l : List α} {i : Nat} {x y : α}, l[i]? = some x → ((l.set i y).map f).sum = (l.map f).sum - f x + f y
  | [], i, x, y, h => by simp at h
  | a :: l, 0, x, y, h => by
    have : a = x := by simpa using h
    subst this
    show f y + _ = f a + _ - f a + f y
    show f y + (l.map f).sum = f a + (l.map f).sum - f a + f y
    omega
  | a :: l, i + 1, x, y, h => by
    have := sum_set f (l := l) (i := i) (x := x) (y := y) (by simpa using h)
    show f a + ((l.set i y).map f).sum = f a + (l.map f).sum - f x + f y
    omega
theorem addN_col {P : List Row} {i : Nat} {c d : Int} (hi : i < P.length) (e : Int) : colS (addN P i c d) e = colS P e + if c = e then d else 0 := by
  unfold addN
  rw [List.getElem?_eq_getElem hi]
  show ((P.set i _).map _).sum = _
  rw [sum_set (fun r => num r e) (List.getElem?_eq_getElem hi)]
  show colS P e - num P[i] e + num (pt P[i] c _) e = _
  rw [num_pt]
  split
  · rename_i z; rw [z]; omega
  · omega
theorem addN_row {P : List Row} {i : Nat} {c d : Int} (nd : ∀ r, P[i]? = some r → (ks r).Nodup ∧ c ∈ ks r) (j : Nat) : ((addN P i c d)[j]?).map rs = (P[j]?).map fun r => rs r + if i = j then d else 0 := by
  rw [addN_get]
  by_cases h : i = j
  · subst h
    rw [if_pos rfl]
    cases e : P[i]? with
    | none => rfl
    | some r =>
      obtain ⟨h1, h2⟩ := nd r e
      show some (rs (pt r c _)) = some (rs r + if i = i then d else 0)
      rw [rs_pt h1 h2, if_pos rfl]
      congr 1; omega
  · rw [if_neg h]
    cases P[j]? with
    | none => rfl
    | some r => show some (rs r) = some (rs r + if i = j then d else 0); rw [if_neg h]; simp
/-- a step stands within the plan -/
def StIn (P : List Row) (x : Step) : Prop := x.1.toNat < P.length ∧ (∀ r, P[x.1.toNat]? = some r → (ks r).Nodup ∧ x.2.2 ∈ ks r ∧ ∀ a, x.2.1 = some a → a ∈ ks r)
theorem StIn.keep {P P' : List Row} {x : Step} (h : StIn P x) (hl : P'.length = P.length) (hk : ∀ j : Nat, (P'[j]?).map ks = (P[j]?).map ks) : StIn P' x := by
  refine ⟨by rw [hl]; exact h.1, fun r e => ?_⟩
  have := hk x.1.toNat
  rw [e] at this
  obtain ⟨r', e', q⟩ := Option.map_eq_some_iff.mp this.symm
  obtain ⟨h1, h2, h3⟩ := h.2 r' e'
  rw [q] at h1 h2 h3
  exact ⟨h1, h2, h3⟩
theorem pushOne_keep {P : List Row} {x : Step} {d : Int} (h : StIn P x) : (pushOne d P x).length = P.length ∧ ∀ j : Nat, ((pushOne d P x)[j]?).map ks = (P[j]?).map ks := by
  unfold pushOne
  have k1 := addN_ks (d := d) (fun r e => (h.2 r e).2.1)
  cases ex : x.2.1 with
  | none => exact ⟨addN_len .., fun j => k1 j⟩
  | some a =>
    refine ⟨by rw [addN_len, addN_len], fun j => ?_⟩
    show ((addN (addN P x.1.toNat x.2.2 d) x.1.toNat a (-d))[j]?).map ks = _
    rw [addN_ks (fun r e => ?_) j]
    · exact k1 j
    · have := k1 x.1.toNat
      rw [e] at this
      obtain ⟨r', e', q⟩ := Option.map_eq_some_iff.mp this.symm
      have := (h.2 r' e').2.2 a ex
      rwa [q] at this
theorem pushOne_num {P : List Row} {x : Step} {d : Int} (h : StIn P x) (j : Nat) (e : Int) : numAt (pushOne d P x) j e = numAt P j e + (if x.1.toNat = j ∧ x.2.2 = e then d else 0) - (if x.1.toNat = j ∧ x.2.1 = some e then d else 0) := by
  unfold pushOne
  cases ex : x.2.1 with
  | none =>
    show numAt (addN _ _ _ _) _ _ = _
    rw [addN_num h.1]
    rw [if_neg (c := x.1.toNat = j ∧ (none : Option Int) = some e) (fun q => nomatch q.2)]
    split <;> omega
  | some a =>
    show numAt (addN (addN _ _ _ _) _ _ _) _ _ = _
    rw [addN_num (by rw [addN_len]; exact h.1), addN_num h.1]
    by_cases h1 : x.1.toNat = j ∧ a = e
    · rw [if_pos h1, if_pos (c := x.1.toNat = j ∧ some a = some e) ⟨h1.1, by rw [h1.2]⟩]
      split <;> omega
    · rw [if_neg h1, if_neg (c := x.1.toNat = j ∧ some a = some e) (fun q => h1 ⟨q.1, Option.some.inj q.2⟩)]
      split <;> omega
theorem pushOne_col {P : List Row} {x : Step} {d : Int} (h : StIn P x) (e : Int) : colS (pushOne d P x) e = colS P e + (if x.2.2 = e then d else 0) - (if x.2.1 = some e then d else 0) := by
  unfold pushOne
  cases ex : x.2.1 with
  | none =>
    show colS (addN _ _ _ _) _ = _
    rw [addN_col h.1, if_neg (c := (none : Option Int) = some e) (fun q => nomatch q)]
    omega
  | some a =>
    show colS (addN (addN _ _ _ _) _ _ _) _ = _
    rw [addN_col (by rw [addN_len]; exact h.1), addN_col h.1]
    by_cases z : a = e
    · rw [if_pos z, if_pos (c := some a = some e) (by rw [z])]; omega
    · rw [if_neg z, if_neg (c := some a = some e) (fun q => z (Option.some.inj q))]; omega
theorem pushOne_row {P : List Row} {x : Step} {d : Int} (h : StIn P x) (j : Nat) : ((pushOne d P x)[j]?).map rs = (P[j]?).map fun r => rs r + if x.1.toNat = j ∧ x.2.1 = none then d else 0 := by
  unfold pushOne
  cases ex : x.2.1 with
  | none =>
    show ((addN _ _ _ _)[j]?).map rs = _
    rw [addN_row fun r e => ⟨(h.2 r e).1, (h.2 r e).2.1⟩]
    congr 1
    funext r
    by_cases z : x.1.toNat = j
    · rw [if_pos z, if_pos ⟨z, rfl⟩]
    · rw [if_neg z, if_neg fun q => z q.1]
  | some a =>
    show ((addN (addN _ _ _ _) _ _ _)[j]?).map rs = _
    have k1 := addN_ks (d := d) (fun r e => (h.2 r e).2.1)
    rw [addN_row fun r e => ?_]
    · have := addN_row (d := d) (fun r e => ⟨(h.2 r e).1, (h.2 r e).2.1⟩) j
      cases e1 : (addN P x.1.toNat x.2.2 d)[j]? with
      | none =>
        rw [e1] at this
        cases e2 : P[j]? with
        | none => rfl
        | some r => rw [e2] at this; cases this
      | some r1 =>
        rw [e1] at this
        cases e2 : P[j]? with
        | none => rw [e2] at this; cases this
        | some r =>
          rw [e2] at this
          have this : rs r1 = rs r + if x.1.toNat = j then d else 0 := Option.some.inj this
          show some (rs r1 + if x.1.toNat = j then -d else 0) = some (rs r + if x.1.toNat = j ∧ some a = none then d else 0)
          rw [this, if_neg (c := x.1.toNat = j ∧ some a = none) (fun q => nomatch q.2)]
          congr 1
          split <;> omega
    · have := k1 x.1.toNat
      rw [e] at this
      obtain ⟨r', e', q⟩ := Option.map_eq_some_iff.mp this.symm
      have h' := h.2 r' e'
      rw [q] at h'
      exact ⟨h'.1, h'.2.2 a ex⟩
def pushAll (d : Int) (P : List Row) (st : List Step) : List Row := st.foldl (pushOne d) P
theorem pushAll_keep {d : Int} : ∀ {st : List Step} {P : List Row}, (∀ x ∈ st, StIn P x) → (pushAll d P st).length = P.length ∧ ∀ j : Nat, ((pushAll d P st)[j]?).map ks = (P[j]?).map ks
  | [], P, _ => ⟨rfl, fun _ => rfl⟩
  | x :: st, P, h => by
    obtain ⟨l1, k1⟩ := pushOne_keep (d := d) (h x List.mem_cons_self)
    obtain ⟨l2, k2⟩ := pushAll_keep (d := d) (st := st) (P := pushOne d P x) fun y hy => (h y (List.mem_cons_of_mem _ hy)).keep l1 k1
    exact ⟨l2.trans l1, fun j => (k2 j).trans (k1 j)⟩
/-- no number falls below 0; what is not 0 was not 0 or stands at a stop -/
theorem pushAll_num {d : Int} (hd : 0 ≤ d) : ∀ {st : List Step} {P : List Row}, (∀ x ∈ st, StIn P x) → (st.filterMap (·.2.1)).Nodup → (∀ x ∈ st, ∀ a, x.2.1 = some a → d ≤ numAt P x.1.toNat a) → (∀ j e, 0 ≤ numAt P j e) →
    (∀ j e, 0 ≤ numAt (pushAll d P st) j e) ∧ ∀ j e, numAt (pushAll d P st) j e ≠ 0 → numAt P j e ≠ 0 ∨ ∃ x ∈ st, x.1.toNat = j ∧ x.2.2 = e
  | [], P, _, _, _, h0 => ⟨h0, fun j e h => .inl h⟩
  | x :: st, P, h, nd, hh, h0 => by
    have hx := h x List.mem_cons_self
    obtain ⟨l1, k1⟩ := pushOne_keep (d := d) hx
    have n1 := pushOne_num (d := d) hx
    have nd' : (st.filterMap (·.2.1)).Nodup ∧ ∀ a, x.2.1 = some a → ¬ a ∈ st.filterMap (·.2.1) := by
      cases ex : x.2.1 with
      | none => rw [List.filterMap_cons_none (f := fun y : Step => y.2.1) ex] at nd; exact ⟨nd, fun a z => nomatch z⟩
      | some a =>
        rw [List.filterMap_cons_some (f := fun y : Step => y.2.1) ex] at nd
        obtain ⟨m1, m2⟩ := List.nodup_cons.mp nd
        exact ⟨m2, fun b z => by cases z; exact m1⟩
    have p0 : ∀ j e, 0 ≤ numAt (pushOne d P x) j e := fun j e => by
      rw [n1]
      have := h0 j e
      by_cases z : x.1.toNat = j ∧ x.2.1 = some e
      · have := hh x List.mem_cons_self e z.2
        rw [z.1] at this
        rw [if_pos z]
        split <;> omega
      · rw [if_neg z]
        split <;> omega
    obtain ⟨a1, a2⟩ := pushAll_num hd (st := st) (P := pushOne d P x) (fun y hy => (h y (List.mem_cons_of_mem _ hy)).keep l1 k1) nd'.1 (fun y hy a ea => by
      rw [n1]
      have := hh y (List.mem_cons_of_mem _ hy) a ea
      rw [if_neg (c := x.1.toNat = y.1.toNat ∧ x.2.1 = some a) (fun z => nd'.2 a z.2 (List.mem_filterMap.mpr ⟨y, hy, ea⟩))]
      split <;> omega) p0
    refine ⟨a1, fun j e q => ?_⟩
    rcases a2 j e q with z | ⟨y, hy, z⟩
    · rw [n1] at z
      by_cases w : x.1.toNat = j ∧ x.2.2 = e
      · exact .inr ⟨x, List.mem_cons_self, w⟩
      · rw [if_neg w] at z
        by_cases w2 : numAt P j e = 0
        · by_cases w3 : x.1.toNat = j ∧ x.2.1 = some e
          · have := hh x List.mem_cons_self e w3.2
            rw [w3.1, w2] at this
            rw [if_pos w3] at z
            omega
          · rw [if_neg w3] at z; omega
        · exact .inl w2
    · exact .inr ⟨y, List.mem_cons_of_mem _ hy, z⟩
theorem pushAll_row {d : Int} : ∀ {st : List Step} {P : List Row}, (∀ x ∈ st, StIn P x) → ∀ j : Nat, ((pushAll d P st)[j]?).map rs = (P[j]?).map fun r => rs r + (st.map fun x => if x.1.toNat = j ∧ x.2.1 = none then d else 0).sum
  | [], P, _, j => by
    show (P[j]?).map rs = (P[j]?).map fun r => rs r + 0
    congr 1; funext r; omega
  | x :: st, P, h, j => by
    obtain ⟨l1, k1⟩ := pushOne_keep (d := d) (h x List.mem_cons_self)
    have r1 := pushOne_row (d := d) (h x List.mem_cons_self) j
    have ih := pushAll_row (d := d) (st := st) (P := pushOne d P x) (fun y hy => (h y (List.mem_cons_of_mem _ hy)).keep l1 k1) j
    show ((pushAll d (pushOne d P x) st)[j]?).map rs = _
    rw [ih]
    cases e1 : (pushOne d P x)[j]? with
    | none =>
      rw [e1] at r1
      cases e2 : P[j]? with
      | none => rfl
      | some r => rw [e2] at r1; cases r1
    | some q1 =>
      rw [e1] at r1
      cases e2 : P[j]? with
      | none => rw [e2] at r1; cases r1
      | some r =>
        rw [e2] at r1
        have r1 : rs q1 = rs r + if x.1.toNat = j ∧ x.2.1 = none then d else 0 := Option.some.inj r1
        show some (rs q1 + _) = some (rs r + _)
        rw [r1, List.map_cons, List.sum_cons]
        congr 1; omega
theorem pushAll_col {d : Int} : ∀ {st : List Step} {P : List Row}, (∀ x ∈ st, StIn P x) → ∀ e, colS (pushAll d P st) e = colS P e + (st.map fun x => (if x.2.2 = e then d else 0) - (if x.2.1 = some e then d else 0)).sum
  | [], P, _, e => by show colS P e = colS P e + 0; omega
  | x :: st, P, h, e => by
    obtain ⟨l1, k1⟩ := pushOne_keep (d := d) (h x List.mem_cons_self)
    have c1 := pushOne_col (d := d) (h x List.mem_cons_self) e
    have ih := pushAll_col (d := d) (st := st) (P := pushOne d P x) (fun y hy => (h y (List.mem_cons_of_mem _ hy)).keep l1 k1) e
    show colS (pushAll d (pushOne d P x) st) e = _
    rw [ih, c1, List.map_cons, List.sum_cons]
    omega
section
variable {t : T} {L : Row} {ℓ : Int}
/-- along a way the columns' changes meet -/
theorem Way.colsum {F : List (Int × Lb)} {v : Int} {st : List Step} (h : Way F v st) (d e : Int) : (st.map fun x => (if x.2.2 = e then d else 0) - (if x.2.1 = some e then d else 0)).sum = if v = e then d else 0 := by
  induction h with
  | @one v c k r _ =>
    show ((if v = e then d else 0) - (if (none : Option Int) = some e then d else 0)) + 0 = _
    rw [if_neg (c := (none : Option Int) = some e) (fun q => nomatch q)]
    omega
  | @more v c k r a st _ g ih =>
    rw [List.map_cons, List.sum_cons, ih]
    show ((if v = e then d else 0) - (if some a = some e then d else 0)) + _ = _
    by_cases z : a = e
    · rw [if_pos z, if_pos (c := some a = some e) (by rw [z])]; omega
    · rw [if_neg z, if_neg (c := some a = some e) (fun q => z (Option.some.inj q))]; omega
theorem Way.rowsum {F : List (Int × Lb)} (f : Fin t L ℓ F) {v : Int} {st : List Step} (h : Way F v st) (d : Int) (j : Nat) : (st.map fun x => if x.1.toNat = j ∧ x.2.1 = none then d else 0).sum = if ℓ.toNat = j then d else 0 := by
  induction h with
  | @one v c k r e =>
    obtain ⟨h1, _⟩ := f.fst _ _ _ _ e
    show (if r.toNat = j ∧ (none : Option Int) = none then d else 0) + 0 = _
    rw [h1]
    by_cases z : ℓ.toNat = j
    · rw [if_pos z, if_pos ⟨z, rfl⟩]; omega
    · rw [if_neg z, if_neg fun q => z q.1]; rfl
  | @more v c k r a st _ g ih =>
    rw [List.map_cons, List.sum_cons, ih]
    show (if r.toNat = j ∧ some a = none then d else 0) + _ = _
    rw [if_neg (c := r.toNat = j ∧ some a = none) (fun q => nomatch q.2)]
    omega
end
end Tr
end Pv

/-! A push keeps the plan cheapest; a row is added. -/
namespace Pv
namespace Tr
def pushT (t : T) (e d : Int) (st : List Step) : T := ⟨t.room.set e.toNat (rm t e - d), t.costs, pushAll d t.plan st⟩
theorem rm_push {t : T} {e d : Int} {st : List Step} (he : 0 ≤ e ∧ e < t.room.length) {c : Int} (hc : 0 ≤ c) : rm (pushT t e d st) c = rm t c - if e = c then d else 0 := by
  show (t.room.set e.toNat _).getD c.toNat 0 = _
  rw [List.getD_eq_getElem?_getD, List.getElem?_set]
  by_cases z : e = c
  · subst z
    rw [if_pos rfl, if_pos (by omega), if_pos rfl]; rfl
  · rw [if_neg (by omega), if_neg z]
    show _ = t.room.getD c.toNat 0 - 0
    rw [List.getD_eq_getElem?_getD]; omega
def pushPot (p : Int → Int) (F : List (Int × Lb)) (D : Int) (v : Int) : Int := match gv F v with
  | none => p v
  | some l => max (p v) (D - l.1)
section
variable {t : T} {p : Int → Int} {L : Row} {ℓ : Nat} {F : List (Int × Lb)} {e : Int} {le : Lb} {d : Int}
/-- what a push needs: e is a cheapest column with room, d is no more than all that it takes -/
structure PushIn (t : T) (L : Row) (ℓ : Nat) (F : List (Int × Lb)) (e : Int) (le : Lb) (d : Int) : Prop where
  fe : gv F e = some le
  re : 0 < rm t e
  mn : ∀ v l, gv F v = some l → 0 < rm t v → le.1 ≤ l.1
  d0 : 0 < d
  dr : d ≤ rm t e
  dh : ∀ x ∈ way F e, ∀ a, x.2.1 = some a → d ≤ numAt t.plan x.1.toNat a
theorem way_in (W : Wf t) (hL : t.costs[ℓ]? = some L) (f : Fin t L ℓ F) {st : List Step} {v : Int} (h : Way F v st) : ∀ x ∈ st, StIn t.plan x := by
  intro x hx
  obtain ⟨l, el, q⟩ := h.each f x hx
  cases ex : x.2.1 with
  | none =>
    rw [ex] at q
    obtain ⟨q1, q2⟩ := q
    have hl := (List.getElem?_eq_some_iff.mp hL).1
    have hlp : ℓ < t.plan.length := by rw [W.len]; exact hl
    have eq : x.1.toNat = ℓ := by rw [q1]; rfl
    refine ⟨by rw [eq]; exact hlp, fun r er => ?_⟩
    rw [eq] at er
    have hk := W.key ℓ r L er hL
    exact ⟨by rw [hk]; exact W.nd L (List.mem_of_getElem? hL), by rw [hk]; exact gv_ks q2, fun a z => by rw [ex] at z; cases z⟩
  | some a =>
    rw [ex] at q
    obtain ⟨l0, i, y, e0, q1, ⟨P, Q, eP, eQ, n, hb, hn, _⟩, ra, q2⟩ := q
    have eq : x.1.toNat = i := by rw [q1]; rfl
    refine ⟨by rw [eq]; exact (List.getElem?_eq_some_iff.mp eP).1, fun r er => ?_⟩
    rw [eq, eP] at er
    cases er
    have hk := W.key i P Q eP eQ
    exact ⟨by rw [hk]; exact W.nd Q (List.mem_of_getElem? eQ), by rw [hk]; exact hb, fun a' z => by rw [ex] at z; cases z; exact num_ks n⟩
theorem numAt_nn (W : Wf t) (j : Nat) (c : Int) : 0 ≤ numAt t.plan j c := by
  unfold numAt
  cases e : t.plan[j]? with
  | none => exact Int.le_refl _
  | some r => exact W.pn r (List.mem_of_getElem? e) c
theorem push_wf (W : Wf t) (hL : t.costs[ℓ]? = some L) (f : Fin t L ℓ F) (g : PushIn t L ℓ F e le d) : Wf (pushT t e d (way F e)) := by
  have w := way_is f g.fe
  have si := way_in W hL f w
  obtain ⟨kl, kk⟩ := pushAll_keep (d := d) si
  obtain ⟨nn, _⟩ := pushAll_num (by have := g.d0; omega) si (w.startsNd f) g.dh (numAt_nn W)
  have he := f.rng e le g.fe
  refine ⟨by show (pushAll _ _ _).length = _; rw [kl]; exact W.len, fun i P Q eP eQ => ?_, W.nd, fun Q hQ k hk => ?_, fun P hP k => ?_, fun x hx => ?_⟩
  · have := kk i
    have eP : (pushAll d t.plan (way F e))[i]? = some P := eP
    rw [eP] at this
    obtain ⟨P0, e0, q⟩ := Option.map_eq_some_iff.mp this.symm
    rw [← q]
    exact W.key i P0 Q e0 eQ
  · show 0 ≤ k ∧ k < ((t.room.set _ _).length : Int)
    rw [List.length_set]
    exact W.rng Q hQ k hk
  · obtain ⟨j, ej⟩ := List.getElem?_of_mem hP
    have ej : (pushAll d t.plan (way F e))[j]? = some P := ej
    have := nn j k
    rwa [numAt_of ej] at this
  · have hx : x ∈ t.room.set e.toNat (rm t e - d) := hx
    rcases List.mem_or_eq_of_mem_set hx with z | z
    · exact W.rn x z
    · have := g.dr; omega
theorem push_pot (W : Wf t) (hp : Pot t p) (hL : t.costs[ℓ]? = some L) (f : Fin t L ℓ F) (g : PushIn t L ℓ F e le d) : Pot (pushT t e d (way F e)) (pushPot p F le.1) := by
  have w := way_is f g.fe
  have si := way_in W hL f w
  obtain ⟨kl, kk⟩ := pushAll_keep (d := d) si
  obtain ⟨_, cs⟩ := pushAll_num (by have := g.d0; omega) si (w.startsNd f) g.dh (numAt_nn W)
  have he := f.rng e le g.fe
  have pl : ∀ v, p v ≤ pushPot p F le.1 v := fun v => by unfold pushPot; split <;> omega
  have pf : ∀ v l, gv F v = some l → le.1 - l.1 ≤ pushPot p F le.1 v := fun v l q => by unfold pushPot; rw [q]; simp only; omega
  -- old arcs
  have A : ∀ i a b x, Arc t i a b x → pushPot p F le.1 a ≤ x + pushPot p F le.1 b := fun i a b x ar => by
    have h1 := hp.tight i a b x ar
    have h2 := pl b
    cases ea : gv F a with
    | none => unfold pushPot at *; rw [ea]; simp only; omega
    | some l =>
      by_cases z : p a ≥ le.1 - l.1
      · have : pushPot p F le.1 a = p a := by unfold pushPot; rw [ea]; simp only; omega
        omega
      · have h0 := hp.nn a
        have ra : rm t a ≤ 0 := by
          by_cases q : 0 < rm t a
          · have := g.mn a l ea q
            omega
          · omega
        obtain ⟨l', e', q⟩ := f.arc a l ea ra i b x ar
        have := pf b l' e'
        have : pushPot p F le.1 a = le.1 - l.1 := by unfold pushPot; rw [ea]; simp only; omega
        omega
  have tp := w.pot f hp (D := le.1) (fun l el => by rw [g.fe] at el; cases el; rw [hp.z e g.re]; omega)
  have eqp : ∀ x ∈ way F e, ∀ l, gv F x.2.2 = some l → pushPot p F le.1 x.2.2 = le.1 - l.1 := fun x hx l el => by
    have := tp x hx l el
    unfold pushPot; rw [el]; simp only; omega
  refine ⟨fun c => Int.le_trans (hp.nn c) (pl c), fun c hc => ?_, fun i a b x ar => ?_⟩
  · by_cases c0 : 0 ≤ c
    · rw [rm_push he c0] at hc
      have hd := g.d0
      have rc : 0 < rm t c := by split at hc <;> omega
      have := hp.z c rc
      unfold pushPot
      cases ec : gv F c with
      | none => exact this
      | some l =>
        have := g.mn c l ec rc
        simp only; omega
    · have hz : c.toNat = 0 := by omega
      have h0 : gv F c = none := by
        cases q : gv F c with
        | none => rfl
        | some l => have := (f.rng c l q).1; omega
      unfold pushPot
      rw [h0]
      simp only
      refine hp.z c ?_
      have : rm (pushT t e d (way F e)) c = rm (pushT t e d (way F e)) 0 := by unfold rm; rw [hz]; rfl
      rw [this, rm_push he (Int.le_refl 0)] at hc
      have hd := g.d0
      have e1 : rm t c = rm t 0 := by unfold rm; rw [hz]; rfl
      rw [e1]
      split at hc <;> omega
  · obtain ⟨P, Q, eP, eQ, n, hb, hn, hx⟩ := ar
    have eP : (pushAll d t.plan (way F e))[i]? = some P := eP
    have eQ : t.costs[i]? = some Q := eQ
    have n' : numAt (pushAll d t.plan (way F e)) i a ≠ 0 := by rw [numAt_of eP]; exact n
    have : ∃ P0, t.plan[i]? = some P0 := by
      have := kk i
      rw [eP] at this
      obtain ⟨P0, e0, _⟩ := Option.map_eq_some_iff.mp this.symm
      exact ⟨P0, e0⟩
    obtain ⟨P0, e0⟩ := this
    rcases cs i a n' with z | ⟨y, hy, z1, z2⟩
    · rw [numAt_of e0] at z
      exact A i a b x ⟨P0, Q, e0, eQ, z, hb, hn, hx⟩
    · obtain ⟨l, el, q⟩ := w.each f y hy
      have ep := eqp y hy l el
      rw [z2] at ep el
      rw [ep, hx]
      cases ey : y.2.1 with
      | none =>
        rw [ey] at q
        obtain ⟨q1, q2⟩ := q
        have : i = ℓ := by rw [← z1, q1]; rfl
        subst this
        rw [hL] at eQ; cases eQ
        rw [z2] at q2
        obtain ⟨xb, exb⟩ := gv_of_ks hb
        obtain ⟨l', el', ql⟩ := f.top b xb exb
        have h1 := pf b l' el'
        have n1 : num L a = l.1 := by unfold num; rw [q2]; rfl
        have n2 : num L b = xb := by unfold num; rw [exb]; rfl
        omega
      | some a0 =>
        rw [ey] at q
        obtain ⟨l0, i', y', e0', q1, ar0, ra, q2⟩ := q
        have hi : i' = i := by rw [← z1, q1]; rfl
        subst hi
        rw [z2] at ar0
        have h0 := pf a0 l0 e0'
        obtain ⟨P1, Q1, eP1, eQ1, m1, m2, m3, m4⟩ := ar0
        rw [eQ] at eQ1; cases eQ1
        by_cases hb0 : b = a0
        · subst hb0; omega
        · have := A i' a0 b (num Q b - num Q a0) ⟨P1, Q, eP1, eQ, m1, hb, hb0, rfl⟩
          omega
theorem push_col (W : Wf t) (hL : t.costs[ℓ]? = some L) (f : Fin t L ℓ F) (g : PushIn t L ℓ F e le d) {c : Int} (hc : 0 ≤ c) : colS (pushT t e d (way F e)).plan c + rm (pushT t e d (way F e)) c = colS t.plan c + rm t c := by
  have w := way_is f g.fe
  rw [rm_push (f.rng e le g.fe) hc]
  show colS (pushAll d t.plan (way F e)) c + _ = _
  rw [pushAll_col (way_in W hL f w), w.colsum d c]
  omega
theorem push_row (W : Wf t) (hL : t.costs[ℓ]? = some L) (f : Fin t L ℓ F) (g : PushIn t L ℓ F e le d) (j : Nat) : ((pushT t e d (way F e)).plan[j]?).map rs = (t.plan[j]?).map fun r => rs r + if ℓ = j then d else 0 := by
  have w := way_is f g.fe
  show ((pushAll d t.plan (way F e))[j]?).map rs = _
  rw [pushAll_row (way_in W hL f w) j]
  congr 1
  funext r
  rw [w.rowsum f d j]
  rfl
theorem push_len (W : Wf t) (hL : t.costs[ℓ]? = some L) (f : Fin t L ℓ F) (g : PushIn t L ℓ F e le d) : (pushT t e d (way F e)).plan.length = t.plan.length :=
  (pushAll_keep (way_in W hL f (way_is f g.fe))).1
end
/-! ### a row is added -/
def zeroRow (L : Row) : Row := L.map fun e => (e.1, 0)
def newRow (t : T) (L : Row) : T := ⟨t.room, t.costs ++ [L], t.plan ++ [zeroRow L]⟩
theorem ks_zero (L : Row) : ks (zeroRow L) = ks L := by unfold zeroRow; show List.map _ (List.map _ _) = _; rw [List.map_map]; rfl
theorem num_zero (L : Row) (k : Int) : num (zeroRow L) k = 0 := by
  unfold zeroRow num
  induction L with
  | nil => rfl
  | cons e L ih =>
    show ((if e.1 = k then some 0 else gv _ k) : Option Int).getD 0 = 0
    split
    · rfl
    · exact ih
theorem rs_zero (L : Row) : rs (zeroRow L) = 0 := by
  unfold rs zeroRow
  induction L with
  | nil => rfl
  | cons e L ih =>
    simp only [List.map_cons, List.sum_cons]
    simp only [List.map_map] at ih ⊢
    omega
section
variable {t : T} {p : Int → Int} {L : Row}
theorem new_wf (W : Wf t) (nd : (ks L).Nodup) (hr : ∀ k ∈ ks L, 0 ≤ k ∧ k < t.room.length) : Wf (newRow t L) := by
  refine ⟨by show (t.plan ++ [_]).length = (t.costs ++ [L]).length; rw [List.length_append, List.length_append, W.len]; rfl, fun i P Q eP eQ => ?_, fun Q hQ => ?_, fun Q hQ => ?_, fun P hP => ?_, W.rn⟩
  · have eP : (t.plan ++ [zeroRow L])[i]? = some P := eP
    have eQ : (t.costs ++ [L])[i]? = some Q := eQ
    rw [List.getElem?_append] at eP eQ
    by_cases h : i < t.plan.length
    · rw [if_pos h] at eP
      rw [if_pos (by rw [← W.len]; exact h)] at eQ
      exact W.key i P Q eP eQ
    · rw [if_neg h] at eP
      rw [if_neg (by rw [← W.len]; exact h)] at eQ
      rw [← W.len] at eQ
      cases hi : i - t.plan.length with
      | zero =>
        rw [hi] at eP eQ
        have eP : zeroRow L = P := by simpa using eP
        have eQ : L = Q := by simpa using eQ
        rw [← eP, ← eQ]; exact ks_zero L
      | succ k => rw [hi] at eP; simp at eP
  · rcases List.mem_append.mp hQ with z | z
    · exact W.nd Q z
    · have : Q = L := by simpa using z
      rw [this]; exact nd
  · rcases List.mem_append.mp hQ with z | z
    · exact W.rng Q z
    · have : Q = L := by simpa using z
      rw [this]; exact hr
  · rcases List.mem_append.mp hP with z | z
    · exact W.pn P z
    · have : P = zeroRow L := by simpa using z
      rw [this]; intro k; rw [num_zero]; exact Int.le_refl _
theorem new_arc {i : Nat} {a b x : Int} (W : Wf t) (h : Arc (newRow t L) i a b x) : Arc t i a b x := by
  obtain ⟨P, Q, eP, eQ, n, hb, hn, hx⟩ := h
  have eP : (t.plan ++ [zeroRow L])[i]? = some P := eP
  have eQ : (t.costs ++ [L])[i]? = some Q := eQ
  rw [List.getElem?_append] at eP eQ
  by_cases h : i < t.plan.length
  · rw [if_pos h] at eP
    rw [if_pos (by rw [← W.len]; exact h)] at eQ
    exact ⟨P, Q, eP, eQ, n, hb, hn, hx⟩
  · rw [if_neg h] at eP
    cases hi : i - t.plan.length with
    | zero =>
      rw [hi] at eP
      have eP : zeroRow L = P := by simpa using eP
      rw [← eP, num_zero] at n
      exact absurd rfl n
    | succ k => rw [hi] at eP; simp at eP
theorem new_pot (W : Wf t) (hp : Pot t p) : Pot (newRow t L) p := ⟨hp.nn, hp.z, fun i a b x ar => hp.tight i a b x (new_arc W ar)⟩
end
end Tr
end Pv

/-! The whole of add_row, and the prices of the columns. -/
namespace Pv
namespace Tr
theorem stepN_stop {t : T} {s : S} (h : s.wait = []) : ∀ n, stepN t n s = s
  | 0 => rfl
  | n + 1 => by
    show stepN t n (stepS t s) = s
    rw [show stepS t s = s by unfold stepS; rw [h]]
    exact stepN_stop h n
theorem stepN_add (t : T) : ∀ (n m : Nat) (s : S), stepN t (n + m) s = stepN t m (stepN t n s)
  | 0, m, s => by rw [Nat.zero_add]; rfl
  | n + 1, m, s => by
    rw [show n + 1 + m = (n + m) + 1 by omega]
    exact stepN_add t n m (stepS t s)
def Search (t : T) (L : Row) (ℓ : Nat) (F : List (Int × Lb)) : Prop := ∃ n, (stepN t n (init L ℓ)).wait = [] ∧ (stepN t n (init L ℓ)).found = F
theorem Search.uniq {t : T} {L : Row} {ℓ : Nat} {F G : List (Int × Lb)} (h : Search t L ℓ F) (g : Search t L ℓ G) : F = G := by
  obtain ⟨n, h1, h2⟩ := h
  obtain ⟨m, g1, g2⟩ := g
  have e1 : stepN t (n + m) (init L ℓ) = stepN t n (init L ℓ) := by rw [stepN_add, stepN_stop h1]
  have e2 : stepN t (n + m) (init L ℓ) = stepN t m (init L ℓ) := by rw [Nat.add_comm, stepN_add, stepN_stop g1]
  rw [← h2, ← g2, ← e1, e2]
section
variable {t : T} {p : Int → Int} {L : Row} {ℓ : Nat} {F : List (Int × Lb)}
theorem Wf.row (W : Wf t) (hL : t.costs[ℓ]? = some L) : (ks L).Nodup ∧ ∀ k ∈ ks L, 0 ≤ k ∧ k < t.room.length := ⟨W.nd L (List.mem_of_getElem? hL), W.rng L (List.mem_of_getElem? hL)⟩
theorem search_ex (W : Wf t) (hp : Pot t p) (hL : t.costs[ℓ]? = some L) : ∃ F, Search t L ℓ F := by
  obtain ⟨n, e⟩ := ends W hp (init_ok (p := p) (ℓ := (ℓ : Int)) (W.row hL).1 (W.row hL).2)
  exact ⟨_, n, e, rfl⟩
theorem Search.fin (W : Wf t) (hp : Pot t p) (hL : t.costs[ℓ]? = some L) (h : Search t L ℓ F) : Fin t L ℓ F := by
  obtain ⟨n, e, rfl⟩ := h
  exact (stepN_ok W hp (init_ok (W.row hL).1 (W.row hL).2)).fin e
end
/-- the cheapest column with room -/
def Best (t : T) (F : List (Int × Lb)) (e : Int) : Prop := ∃ le, gv F e = some le ∧ 0 < rm t e ∧ ∀ v l, gv F v = some l → 0 < rm t v → leP (lk le) (lk l) ∧ (lk le = lk l → e ≤ v)
theorem Best.uniq {t : T} {F : List (Int × Lb)} {e e' : Int} (h : Best t F e) (g : Best t F e') : e = e' := by
  obtain ⟨l, h1, h2, h3⟩ := h
  obtain ⟨l', g1, g2, g3⟩ := g
  obtain ⟨a1, a2⟩ := h3 e' l' g1 g2
  obtain ⟨b1, b2⟩ := g3 e l h1 h2
  have : lk l = lk l' := by
    unfold leP at a1 b1
    refine Prod.ext ?_ ?_ <;> omega
  have := a2 this
  have := b2 (by assumption : lk l = lk l').symm
  omega
def ltB (a b : Lb) (u v : Int) : Bool := ltP (lk a) (lk b) || (lk a == lk b && decide (u < v))
theorem best_ex {t : T} : ∀ {F : List (Int × Lb)}, (ks F).Nodup → (∃ v l, gv F v = some l ∧ 0 < rm t v) → ∃ e, Best t F e
  | [], _, h => by obtain ⟨v, l, e, _⟩ := h; cases e
  | x :: F, nd, h => by
    obtain ⟨n1, n2⟩ := List.nodup_cons.mp nd
    have gx : gv (x :: F) x.1 = some x.2 := by unfold gv; exact if_pos rfl
    have gF : ∀ v l, gv F v = some l → gv (x :: F) v = some l := fun v l e => by
      unfold gv; rw [if_neg (fun z => n1 (by show x.1 ∈ ks F; rw [z]; exact gv_ks e))]; exact e
    have op : ∀ v l, gv (x :: F) v = some l → (v = x.1 ∧ l = x.2) ∨ gv F v = some l := fun v l e => by
      unfold gv at e
      by_cases z : x.1 = v
      · rw [if_pos z] at e; cases e; exact .inl ⟨z.symm, rfl⟩
      · rw [if_neg z] at e; exact .inr e
    by_cases hF : ∃ v l, gv F v = some l ∧ 0 < rm t v
    · obtain ⟨e, le, e1, e2, e3⟩ := best_ex n2 hF
      by_cases hx : 0 < rm t x.1 ∧ ((x.2.1 < le.1) ∨ (x.2.1 = le.1 ∧ (x.2.2.1 < le.2.1 ∨ (x.2.2.1 = le.2.1 ∧ x.1 < e))))
      · refine ⟨x.1, x.2, gx, hx.1, fun v l q r => ?_⟩
        rcases op v l q with ⟨rfl, rfl⟩ | q
        · exact ⟨leP.refl _, fun _ => Int.le_refl _⟩
        · obtain ⟨a, b⟩ := e3 v l q r
          have a : le.1 < l.1 ∨ (le.1 = l.1 ∧ le.2.1 ≤ l.2.1) := a
          refine ⟨by show x.2.1 < l.1 ∨ (x.2.1 = l.1 ∧ x.2.2.1 ≤ l.2.1); omega, fun z => ?_⟩
          obtain ⟨z1, z2⟩ := Prod.mk.inj (show (x.2.1, x.2.2.1) = (l.1, l.2.1) from z)
          have := b (Prod.ext (by show le.1 = l.1; omega) (by show le.2.1 = l.2.1; omega))
          omega
      · refine ⟨e, le, gF e le e1, e2, fun v l q r => ?_⟩
        rcases op v l q with ⟨rfl, rfl⟩ | q
        · have hx : ¬ ((x.2.1 < le.1) ∨ (x.2.1 = le.1 ∧ (x.2.2.1 < le.2.1 ∨ (x.2.2.1 = le.2.1 ∧ x.1 < e)))) := fun z => hx ⟨r, z⟩
          refine ⟨by show le.1 < x.2.1 ∨ (le.1 = x.2.1 ∧ le.2.1 ≤ x.2.2.1); omega, fun z => ?_⟩
          obtain ⟨z1, z2⟩ := Prod.mk.inj (show (le.1, le.2.1) = (x.2.1, x.2.2.1) from z)
          omega
        · exact e3 v l q r
    · obtain ⟨v, l, q, r⟩ := h
      refine ⟨x.1, x.2, gx, ?_, fun v' l' q' r' => ?_⟩
      · rcases op v l q with ⟨rfl, rfl⟩ | q
        · exact r
        · exact absurd ⟨v, l, q, r⟩ hF
      · rcases op v' l' q' with ⟨rfl, rfl⟩ | q'
        · exact ⟨leP.refl _, fun _ => Int.le_refl _⟩
        · exact absurd ⟨v', l', q', r'⟩ hF
def lmin : List Int → Int
  | [] => 0
  | x :: l => l.foldl min x
theorem fold_min : ∀ (l : List Int) (x : Int), (l.foldl min x ≤ x ∧ ∀ y ∈ l, l.foldl min x ≤ y) ∧ (l.foldl min x = x ∨ l.foldl min x ∈ l)
  | [], x => ⟨⟨Int.le_refl _, fun y h => by cases h⟩, .inl rfl⟩
  | y :: l, x => by
    obtain ⟨⟨a, b⟩, c⟩ := fold_min l (min x y)
    rw [List.foldl_cons]
    refine ⟨⟨by omega, fun z hz => ?_⟩, ?_⟩
    · rcases List.mem_cons.mp hz with q | q
      · rw [q]; omega
      · exact b z q
    · rcases c with c | c
      · rw [c]
        by_cases q : x ≤ y
        · exact .inl (by omega)
        · exact .inr (by rw [show min x y = y by omega]; exact List.mem_cons_self)
      · exact .inr (List.mem_cons_of_mem _ c)
theorem lmin_le {l : List Int} {y : Int} (h : y ∈ l) : lmin l ≤ y := by
  cases l with
  | nil => cases h
  | cons x l =>
    obtain ⟨⟨a, b⟩, c⟩ := fold_min l x
    rcases List.mem_cons.mp h with q | q
    · rw [q]; exact a
    · exact b y q
theorem lmin_mem {l : List Int} (h : l ≠ []) : lmin l ∈ l := by
  cases l with
  | nil => exact absurd rfl h
  | cons x l =>
    obtain ⟨_, c⟩ := fold_min l x
    rcases c with c | c
    · show l.foldl min x ∈ _; rw [c]; exact List.mem_cons_self
    · exact List.mem_cons_of_mem _ c
theorem lmin_eq {l : List Int} {m : Int} (h : m ∈ l) (g : ∀ y ∈ l, m ≤ y) : m = lmin l := by
  have h1 := lmin_le h
  have h2 := g _ (lmin_mem (List.ne_nil_of_mem h))
  omega
/-- what the way's steps hold -/
def held (P : List Row) (st : List Step) : List Int := st.filterMap fun x => x.2.1.map fun a => numAt P x.1.toNat a
def many (t : T) (F : List (Int × Lb)) (e amount : Int) : Int := lmin (amount :: rm t e :: held t.plan (way F e))
/-- add_row's loop, on a transport whose last row ℓ stands already: what is left, the transport at the end, the full columns if it fails -/
inductive AddR (L : Row) (ℓ : Nat) : T → Int → T → Option (List (Int × Lb)) → Prop
  | done {t x} : x ≤ 0 → AddR L ℓ t x t none
  | stuck {t x F} : 0 < x → Search t L ℓ F → (∀ v l, gv F v = some l → rm t v ≤ 0) → AddR L ℓ t x t (some F)
  | push {t x F e t' r} : 0 < x → Search t L ℓ F → Best t F e → AddR L ℓ (pushT t e (many t F e x) (way F e)) (x - many t F e x) t' r → AddR L ℓ t x t' r
theorem AddR.uniq {L : Row} {ℓ : Nat} {t : T} {x : Int} {t1 t2 : T} {r1 r2 : Option (List (Int × Lb))} (h : AddR L ℓ t x t1 r1) (g : AddR L ℓ t x t2 r2) : t1 = t2 ∧ r1 = r2 := by
  induction h with
  | done hx =>
    cases g with
    | done _ => exact ⟨rfl, rfl⟩
    | stuck hy _ _ => omega
    | push hy _ _ _ => omega
  | stuck hx hs hn =>
    cases g with
    | done _ => omega
    | stuck _ hs' _ => exact ⟨rfl, by rw [hs.uniq hs']⟩
    | push _ hs' hb _ =>
      rw [← hs.uniq hs'] at hb
      obtain ⟨le, e1, e2, _⟩ := hb
      have := hn _ _ e1
      omega
  | push hx hs hb _ ih =>
    cases g with
    | done _ => omega
    | stuck _ hs' hn =>
      rw [← hs.uniq hs'] at hn
      obtain ⟨le, e1, e2, _⟩ := hb
      have := hn _ _ e1
      omega
    | push _ hs' hb' g' =>
      have e1 := hs.uniq hs'
      subst e1
      have e2 := hb.uniq hb'
      subst e2
      exact ih g'
section
variable {t : T} {p : Int → Int} {L : Row} {ℓ : Nat} {F : List (Int × Lb)} {e x : Int}
theorem push_in (W : Wf t) (hp : Pot t p) (hL : t.costs[ℓ]? = some L) (hx : 0 < x) (f : Fin t L ℓ F) (hb : Best t F e) : ∃ le, PushIn t L ℓ F e le (many t F e x) ∧ many t F e x ≤ x := by
  obtain ⟨le, e1, e2, e3⟩ := hb
  have hm := lmin_mem (l := x :: rm t e :: held t.plan (way F e)) (by simp)
  refine ⟨le, ⟨e1, e2, fun v l q r => ?_, ?_, lmin_le (List.mem_cons_of_mem _ List.mem_cons_self), fun y hy a ea => ?_⟩, lmin_le List.mem_cons_self⟩
  · exact leP1 (e3 v l q r).1
  · show 0 < lmin _
    rcases List.mem_cons.mp hm with q | q
    · rw [q]; exact hx
    · rcases List.mem_cons.mp q with q | q
      · rw [q]; exact e2
      · obtain ⟨y, hy, ey⟩ := List.mem_filterMap.mp q
        obtain ⟨a, ea, eq⟩ := Option.map_eq_some_iff.mp ey
        rw [← eq]
        obtain ⟨l, el, z⟩ := (way_is f e1).each f y hy
        rw [ea] at z
        obtain ⟨l0, i, y', _, q1, ⟨P, Q, eP, eQ, n, _⟩, _⟩ := z
        have hi : y.1.toNat = i := by rw [q1]; rfl
        rw [hi, numAt_of eP]
        have := W.pn P (List.mem_of_getElem? eP) a
        omega
  · exact lmin_le (List.mem_cons_of_mem _ (List.mem_cons_of_mem _ (List.mem_filterMap.mpr ⟨y, hy, by rw [ea]; rfl⟩)))
theorem addR_ex : ∀ (n : Nat) {t : T} {p : Int → Int} {x : Int}, x.toNat ≤ n → Wf t → Pot t p → t.costs[ℓ]? = some L → ∃ t' r, AddR L ℓ t x t' r
  | n, t, p, x, hn, W, hp, hL => by
    by_cases hx : 0 < x
    · obtain ⟨F, hs⟩ := search_ex W hp hL
      have f := hs.fin W hp hL
      by_cases hr : ∃ v l, gv F v = some l ∧ 0 < rm t v
      · obtain ⟨e, hb⟩ := best_ex f.nd hr
        obtain ⟨le, pi, hm⟩ := push_in W hp hL hx f hb
        cases n with
        | zero => omega
        | succ n =>
          have := pi.d0
          obtain ⟨t', r, h⟩ := addR_ex n (x := x - many t F e x) (by omega) (push_wf W hL f pi) (push_pot W hp hL f pi) hL
          exact ⟨t', r, .push hx hs hb h⟩
      · refine ⟨t, some F, .stuck hx hs fun v l q => ?_⟩
        by_cases z : 0 < rm t v
        · exact absurd ⟨v, l, q, z⟩ hr
        · omega
    · exact ⟨t, none, .done (by omega)⟩
end
/-- what a run of the loop keeps, and what it has placed -/
structure Kept (L : Row) (ℓ : Nat) (t : T) (x : Int) (t' : T) (r : Option (List (Int × Lb))) : Prop where
  wf : Wf t'
  pot : ∃ p, Pot t' p
  cs : t'.costs = t.costs
  rl : t'.room.length = t.room.length
  pl : t'.plan.length = t.plan.length
  col : ∀ c, 0 ≤ c → colS t'.plan c + rm t' c = colS t.plan c + rm t c
  row : ∀ j : Nat, j ≠ ℓ → (t'.plan[j]?).map rs = (t.plan[j]?).map rs
  ok : r = none → (t'.plan[ℓ]?).map rs = (t.plan[ℓ]?).map fun q => rs q + max x 0
  bad : ∀ F, r = some F → Fin t' L ℓ F ∧ (∀ v l, gv F v = some l → rm t' v ≤ 0) ∧ ∃ y, y < x ∧ (t'.plan[ℓ]?).map rs = (t.plan[ℓ]?).map fun q => rs q + y
theorem AddR.kept {L : Row} {ℓ : Nat} {t : T} {x : Int} {t' : T} {r : Option (List (Int × Lb))} (h : AddR L ℓ t x t' r) : ∀ {p : Int → Int}, Wf t → Pot t p → t.costs[ℓ]? = some L → Kept L ℓ t x t' r := by
  induction h with
  | @done t x hx =>
    intro p W hp hL
    refine ⟨W, ⟨p, hp⟩, rfl, rfl, rfl, fun c _ => rfl, fun j _ => rfl, fun _ => ?_, fun F e => nomatch e⟩
    congr 1; funext q; omega
  | @stuck t x F hx hs hn =>
    intro p W hp hL
    refine ⟨W, ⟨p, hp⟩, rfl, rfl, rfl, fun c _ => rfl, fun j _ => rfl, (fun e => nomatch e), fun G e => ?_⟩
    cases e
    refine ⟨hs.fin W hp hL, hn, 0, hx, ?_⟩
    congr 1; funext q; omega
  | @push t x F e t' r hx hs hb g ih =>
    intro p W hp hL
    have f := hs.fin W hp hL
    obtain ⟨le, pi, hm⟩ := push_in W hp hL hx f hb
    have d0 := pi.d0
    obtain ⟨w, pt, cs, rl, pl, col, row, ok, bad⟩ := ih (push_wf W hL f pi) (push_pot W hp hL f pi) hL
    have pr := push_row W hL f pi
    refine ⟨w, pt, cs, rl.trans (by show (t.room.set _ _).length = _; rw [List.length_set]), pl.trans (push_len W hL f pi), fun c hc => (col c hc).trans (push_col W hL f pi hc), fun j hj => ?_, fun q => ?_, fun G q => ?_⟩
    · rw [row j hj, pr j]
      congr 1; funext q
      rw [if_neg (fun z => hj z.symm)]; omega
    · rw [ok q]
      have := pr ℓ
      cases e1 : (pushT t e (many t F e x) (way F e)).plan[ℓ]? with
      | none =>
        rw [e1] at this
        cases e2 : t.plan[ℓ]? with
        | none => rfl
        | some _ => rw [e2] at this; cases this
      | some q1 =>
        rw [e1] at this
        cases e2 : t.plan[ℓ]? with
        | none => rw [e2] at this; cases this
        | some q2 =>
          rw [e2] at this
          have this : rs q1 = rs q2 + if ℓ = ℓ then many t F e x else 0 := Option.some.inj this
          rw [if_pos rfl] at this
          show some (rs q1 + _) = some (rs q2 + _)
          congr 1; omega
    · obtain ⟨b1, b2, y, hy, b3⟩ := bad G q
      refine ⟨b1, b2, y + many t F e x, by omega, ?_⟩
      rw [b3]
      have := pr ℓ
      cases e1 : (pushT t e (many t F e x) (way F e)).plan[ℓ]? with
      | none =>
        rw [e1] at this
        cases e2 : t.plan[ℓ]? with
        | none => rfl
        | some _ => rw [e2] at this; cases this
      | some q1 =>
        rw [e1] at this
        cases e2 : t.plan[ℓ]? with
        | none => rw [e2] at this; cases this
        | some q2 =>
          rw [e2] at this
          have this : rs q1 = rs q2 + if ℓ = ℓ then many t F e x else 0 := Option.some.inj this
          rw [if_pos rfl] at this
          show some (rs q1 + _) = some (rs q2 + _)
          congr 1; omega
/-! ### the prices of the columns -/
def qa (q : List Int) (c : Int) : Int := q.getD c.toNat 0
def price1 (t : T) (q : List Int) (c : Nat) : Int := lmin (qa q c :: (moves t c).map fun m => m.2.1 + qa q m.1)
def nextQ (t : T) (q : List Int) : List Int := (List.range t.room.length).map (price1 t q)
def q0 (t : T) (hi : Int) : List Int := t.room.map fun x => if 0 < x then 0 else hi
def qN (t : T) (hi : Int) : Nat → List Int
  | 0 => q0 t hi
  | n + 1 => nextQ t (qN t hi n)
def prices (t : T) (hi : Int) : List Int := qN t hi t.room.length
theorem nodup_range : ∀ {m : Nat} {l : List Int}, l.Nodup → (∀ x ∈ l, 0 ≤ x ∧ x < m) → l.length ≤ m
  | 0, l, _, h => by
    cases l with
    | nil => exact Nat.le_refl _
    | cons a l => have := h a List.mem_cons_self; omega
  | m + 1, l, nd, h => by
    by_cases hm : (m : Int) ∈ l
    · have e := List.length_erase_of_mem hm
      have := nodup_range (m := m) (nd.erase (m : Int)) fun x hx => by
        have hx' := (nd.mem_erase_iff).mp hx
        have := h x hx'.2
        have := hx'.1
        omega
      have := List.length_pos_of_mem hm
      omega
    · have := nodup_range (m := m) nd fun x hx => by
        have := h x hx
        have : x ≠ (m : Int) := fun z => hm (by rw [← z]; exact hx)
        omega
      omega
section
variable {t : T} {p : Int → Int} {hi : Int}
theorem qN_len (t : T) (hi : Int) : ∀ n, (qN t hi n).length = t.room.length
  | 0 => by show (t.room.map _).length = _; rw [List.length_map]
  | n + 1 => by show ((List.range _).map _).length = _; rw [List.length_map, List.length_range]
theorem qa_next (t : T) (q : List Int) {c : Int} (hc : 0 ≤ c ∧ c < t.room.length) : qa (nextQ t q) c = price1 t q c.toNat := by
  unfold qa nextQ
  rw [List.getD_eq_getElem?_getD, List.getElem?_map, List.getElem?_range (by omega)]
  rfl
theorem q_step (t : T) (q : List Int) {c : Int} (hc : 0 ≤ c ∧ c < t.room.length) : qa (nextQ t q) c ≤ qa q c ∧ (∀ i b x, Arc t i c b x → qa (nextQ t q) c ≤ x + qa q b) ∧ (qa (nextQ t q) c = qa q c ∨ ∃ i b x, Arc t i c b x ∧ qa (nextQ t q) c = x + qa q b) := by
  rw [qa_next t q hc]
  have ec : ((c.toNat : Nat) : Int) = c := by omega
  unfold price1
  rw [ec]
  refine ⟨lmin_le List.mem_cons_self, fun i b x ar => ?_, ?_⟩
  · obtain ⟨c', r, e, le⟩ := moves_le ar
    have := lmin_le (l := qa q c :: (moves t c).map fun m => m.2.1 + qa q m.1) (List.mem_cons_of_mem _ (List.mem_map.mpr ⟨_, gv_mem e, rfl⟩))
    simp only at this; omega
  · have := lmin_mem (l := qa q c :: (moves t c).map fun m => m.2.1 + qa q m.1) (by simp)
    rcases List.mem_cons.mp this with z | z
    · exact .inl z
    · obtain ⟨m, hm, em⟩ := List.mem_map.mp z
      have h := moves_arc (t := t) (a := c)
      obtain ⟨i, _, ar⟩ := h.2 m.1 m.2.1 m.2.2 (gv_of_mem h.1 hm)
      exact .inr ⟨i, m.1, m.2.1, ar, em.symm⟩
theorem q_zero (t : T) (hi : Int) {c : Int} (hc : 0 ≤ c ∧ c < t.room.length) : qa (q0 t hi) c = if 0 < rm t c then 0 else hi := by
  unfold qa q0 rm
  rw [List.getD_eq_getElem?_getD, List.getD_eq_getElem?_getD, List.getElem?_map, List.getElem?_eq_getElem (by omega)]
  rfl
theorem q_mono (t : T) (hi : Int) {c : Int} (hc : 0 ≤ c ∧ c < t.room.length) : ∀ {i j : Nat}, i ≤ j → qa (qN t hi j) c ≤ qa (qN t hi i) c
  | i, 0, h => by rw [show i = 0 by omega]; exact Int.le_refl _
  | i, j + 1, h => by
    by_cases e : i = j + 1
    · rw [e]; exact Int.le_refl _
    · exact Int.le_trans (q_step t _ hc).1 (q_mono t hi hc (by omega))
theorem q_low (W : Wf t) (hp : Pot t p) (hh : ∀ c : Int, 0 ≤ c ∧ c < t.room.length → p c ≤ hi) : ∀ (n : Nat) (c : Int), 0 ≤ c ∧ c < t.room.length → p c ≤ qa (qN t hi n) c
  | 0, c, hc => by
    show p c ≤ qa (q0 t hi) c
    rw [q_zero t hi hc]
    split
    · rename_i z; rw [hp.z c z]; exact Int.le_refl _
    · exact hh c hc
  | n + 1, c, hc => by
    rcases (q_step t (qN t hi n) hc).2.2 with z | ⟨i, b, x, ar, z⟩
    · show _ ≤ qa (nextQ t (qN t hi n)) c
      rw [z]; exact q_low W hp hh n c hc
    · show _ ≤ qa (nextQ t (qN t hi n)) c
      rw [z]
      have := q_low W hp hh n b (W.arc ar).2
      have := hp.tight _ _ _ _ ar
      omega
theorem q_chain (W : Wf t) (hp : Pot t p) : ∀ (j : Nat) (c : Int), 0 ≤ c ∧ c < t.room.length → (∀ j', j = j' + 1 → qa (qN t hi j) c < qa (qN t hi j') c) → ∃ l : List Int, (c :: l).Nodup ∧ l.length = j ∧ (∀ u ∈ l, 0 ≤ u ∧ u < t.room.length) ∧ ∀ u ∈ l, ∃ i, i < j ∧ ∃ X, qa (qN t hi j) c = X + qa (qN t hi i) u ∧ p c ≤ X + p u
  | 0, c, hc, _ => ⟨[], List.nodup_cons.mpr ⟨by simp, List.nodup_nil⟩, rfl, (fun u h => by cases h), (fun u h => by cases h)⟩
  | j + 1, c, hc, him => by
    have h1 := him j rfl
    rcases (q_step t (qN t hi j) hc).2.2 with z | ⟨i, b, x, ar, z⟩
    · have h1 : qa (nextQ t (qN t hi j)) c < qa (qN t hi j) c := h1
      omega
    · have z : qa (qN t hi (j + 1)) c = x + qa (qN t hi j) b := z
      have hb := (W.arc ar).2
      have tb := hp.tight _ _ _ _ ar
      obtain ⟨l, nd, ll, lr, lx⟩ := q_chain W hp j b hb fun j' ej => by
        subst ej
        have h2 := (q_step t (qN t hi j') hc).2.1 i b x ar
        have h2 : qa (qN t hi (j' + 1)) c ≤ x + qa (qN t hi j') b := h2
        omega
      have hx : ∀ u ∈ b :: l, ∃ i, i < j + 1 ∧ ∃ X, qa (qN t hi (j + 1)) c = X + qa (qN t hi i) u ∧ p c ≤ X + p u := fun u hu => by
        rcases List.mem_cons.mp hu with q | q
        · subst q; exact ⟨j, by omega, x, z, tb⟩
        · obtain ⟨i', hi', X, e1, e2⟩ := lx u q
          exact ⟨i', by omega, x + X, by omega, by omega⟩
      refine ⟨b :: l, List.nodup_cons.mpr ⟨fun hm => ?_, nd⟩, by rw [List.length_cons, ll], fun u hu => ?_, hx⟩
      · obtain ⟨i', hi', X, e1, e2⟩ := hx c hm
        have := q_mono t hi hc (show i' ≤ j by omega)
        omega
      · rcases List.mem_cons.mp hu with q | q
        · rw [q]; exact hb
        · exact lr u q
theorem q_fix (W : Wf t) (hp : Pot t p) (c : Int) (hc : 0 ≤ c ∧ c < t.room.length) : ∀ i b x, Arc t i c b x → qa (prices t hi) c ≤ x + qa (prices t hi) b := by
  have same : ∀ c : Int, 0 ≤ c ∧ c < t.room.length → ∀ m', t.room.length = m' + 1 → qa (qN t hi t.room.length) c = qa (qN t hi m') c := fun c hc m' em => by
    have h1 := q_mono t hi hc (show m' ≤ t.room.length by omega)
    by_cases z : qa (qN t hi t.room.length) c < qa (qN t hi m') c
    · obtain ⟨l, nd, ll, lr, _⟩ := q_chain W hp (hi := hi) t.room.length c hc fun j' ej => by
        have : j' = m' := by omega
        subst this; exact z
      have := nodup_range (m := t.room.length) nd fun x hx => by
        rcases List.mem_cons.mp hx with q | q
        · rw [q]; exact hc
        · exact lr x q
      rw [List.length_cons] at this
      omega
    · omega
  intro i b x ar
  cases em : t.room.length with
  | zero => omega
  | succ m' =>
    have hb := (W.arc ar).2
    have s1 := same c hc m' em
    have s2 := same b hb m' em
    have := (q_step t (qN t hi m') hc).2.1 i b x ar
    have this : qa (qN t hi (m' + 1)) c ≤ x + qa (qN t hi m') b := this
    unfold prices
    rw [s2, em]
    exact this
/-- the prices: least worth, 0 at room, at most hi, every unit stands where it is cheapest -/
theorem prices_ok (W : Wf t) (hp : Pot t p) (h0 : 0 ≤ hi) (hh : ∀ c : Int, 0 ≤ c ∧ c < t.room.length → p c ≤ hi) : (prices t hi).length = t.room.length ∧ ∀ c : Int, 0 ≤ c ∧ c < t.room.length →
    0 ≤ qa (prices t hi) c ∧ qa (prices t hi) c ≤ hi ∧ (0 < rm t c → qa (prices t hi) c = 0) ∧ ∀ i b x, Arc t i c b x → qa (prices t hi) c ≤ x + qa (prices t hi) b := by
  refine ⟨qN_len t hi _, fun c hc => ?_⟩
  have h1 := q_low W hp hh t.room.length c hc
  have h2 := hp.nn c
  have h3 := q_mono t hi hc (Nat.zero_le t.room.length)
  have h3 : qa (prices t hi) c ≤ qa (q0 t hi) c := h3
  have h1 : p c ≤ qa (prices t hi) c := h1
  rw [q_zero t hi hc] at h3
  refine ⟨by omega, ?_, fun z => ?_, q_fix W hp c hc⟩
  · split at h3 <;> omega
  · rw [if_pos z] at h3; omega
end
end Tr
end Pv

set_option maxHeartbeats 1000000
namespace Pv
open PySem PySem.Spec PyProof.Rows L2
/-! dicts with int keys, as lists of pairs -/
/-- the value of e, locked for good -/
def tFrz (td : TE) : TE := fun σ H Q => td σ H fun x H1 => ∃ d kvs, x = .ref d ∧ H1 d = some (.dK kvs) ∧ ∀ o, Q x (upd H1 d (.frz o (.dK kvs)))
theorem pe_frz {X : Cx} {e : Expr} {td : TE} (h : PE X e td) : PE X e (tFrz td) := by
  refine ⟨fun pins s σ H Q I hw => ?_⟩
  refine thn (h.run pins s σ H _ I hw) fun v s1 ⟨x, H1, I1, r, d, kvs, ex, hd, q⟩ => ?_
  obtain ⟨od, I2⟩ := I1.lock hd trivial
  exact ⟨x, _, I2, r, q od⟩
theorem walk_keys {d : Addr} {o : Obj} {kvs : List (L2.Key × V)} : Walk (Itk d o kvs) kvs.length (fun H => H d = some (.frz o (.dK kvs))) (fun i H x H' => H' = H ∧ ∃ k v, kvs[i]? = some (k, v) ∧ x = kV k) :=
  ⟨fun _ _ hi q => ⟨q, hi⟩, fun _ q => ⟨q, Nat.le_refl _⟩, fun _ _ _ _ _ _ y => y⟩
theorem dc_it {J : It} {n : Nat} {G : Hp → Prop} {Y : Nat → Hp → V → Hp → Prop} (w : Walk J n G Y) {g : TG} {tt : TT} {tk tv : TE} {vs : List Nat} {σ : L2.St} {H1 : Hp} {D : Addr} {Qd : Hp → Prop} (Pv : Nat → Hp → Prop) (h0 : Pv 0 (upd H1 D (.dK []))) (hG : ∀ i H, i ≤ n → Pv i H → G H)
    (hs : ∀ i x H H', i < n → Pv i H → Y i H x H' → g x (wipe σ vs) H' fun σ2 H2 => wipe σ2 vs = wipe σ vs ∧ tt σ2 H2 fun b H3 =>
      if b = true then tk σ2 H3 fun y H4 => tv σ2 H4 fun z H5 => ∃ kvs k, y = kV k ∧ H5 D = some (.dK kvs) ∧ kvs.length < sizeLine ∧ Pv (i + 1) (upd H5 D (.dK (putK kvs k z))) else Pv (i + 1) H3) (hd : ∀ H, Pv n H → Qd H) :
    ∃ W : Nat → Nat → Hp → Prop, (∃ m, W 0 m (upd H1 D (.dK []))) ∧ ∀ i m H, W i m H →
      (J.stop i H ∧ Qd H) ∨ (J.go i H ∧ ∃ Nx : Hp → Prop, (∀ H', Nx H' → ∃ m', m' < m ∧ W (i + 1) m' H') ∧ ∀ x H', J.yld i H x H' → g x (wipe σ vs) H' fun σ2 H2 => wipe σ2 vs = wipe σ vs ∧ tt σ2 H2 fun b H3 =>
        if b = true then tk σ2 H3 fun y H4 => tv σ2 H4 fun z H5 => ∃ kvs k, y = kV k ∧ H5 D = some (.dK kvs) ∧ kvs.length < sizeLine ∧ Nx (upd H5 D (.dK (putK kvs k z))) else Nx H3) := by
  refine ⟨fun i m H => m = n - i ∧ i ≤ n ∧ Pv i H, ⟨n, by simp, Nat.zero_le _, h0⟩, ?_⟩
  rintro i m H ⟨rfl, hi, p⟩
  have q := hG i H hi p
  by_cases hlt : i < n
  · exact .inr ⟨w.goes i H hlt q, Pv (i + 1), fun H' p' => ⟨n - (i + 1), by omega, rfl, hlt, p'⟩, fun x H' y => hs i x H H' hlt p (w.yields i H x H' hlt q y)⟩
  · have e : i = n := by omega
    subst e
    exact .inl ⟨w.stops H q, hd H p⟩
/-- a dict shown by its pairs -/
def dkW {β : Type} (f : β → V) (L : List (Int × β)) : List (L2.Key × V) := L.map fun e => (Sum.inl e.1, f e.2)
theorem valV_dkW {β : Type} (f : β → V) (L : List (Int × β)) (k : Int) : valV (dkW f L) (Sum.inl k : L2.Key) = (Tr.gv L k).map f := by
  induction L with
  | nil => rfl
  | cons e L ih =>
    show valV ((Sum.inl e.1, f e.2) :: dkW f L) _ = _
    unfold Tr.gv
    by_cases h : e.1 = k
    · rw [if_pos h]; exact valV_pos (by show (Sum.inl e.1 : L2.Key) = _; rw [h])
    · rw [if_neg h, ← ih]; exact valV_neg fun z => h (Sum.inl.inj z)
theorem putK_dkW {β : Type} (f : β → V) {L : List (Int × β)} (nd : (Tr.ks L).Nodup) (k : Int) (v : β) : putK (dkW f L) (Sum.inl k : L2.Key) (f v) = dkW f (Tr.pt L k v) := by
  by_cases hk : k ∈ Tr.ks L
  · have hv : (valV (dkW f L) (Sum.inl k : L2.Key)).isSome = true := by
      rw [valV_dkW]; obtain ⟨x, e⟩ := Tr.gv_of_ks hk; rw [e]; rfl
    unfold putK
    rw [if_pos (by rw [valV_any]; exact hv)]
    clear hv
    induction L with
    | nil => cases hk
    | cons e L ih =>
      obtain ⟨n1, n2⟩ := List.nodup_cons.mp nd
      unfold Tr.pt
      by_cases h : e.1 = k
      · rw [if_pos h]
        show _ :: List.map _ (dkW f L) = _ :: dkW f L
        have hn : ∀ L' : List (Int × β), (¬ k ∈ Tr.ks L') → List.map (fun kv : L2.Key × V => if kv.1 = Sum.inl k then (kv.1, f v) else kv) (dkW f L') = dkW f L' := fun L' => by
          induction L' with
          | nil => intro _; rfl
          | cons x L' ih' =>
            intro hx
            show (if (Sum.inl x.1 : L2.Key) = Sum.inl k then _ else _) :: _ = (Sum.inl x.1, f x.2) :: dkW f L'
            rw [if_neg (fun z => hx (by rw [← Sum.inl.inj z]; exact List.mem_cons_self))]
            congr 1
            exact ih' (fun z => hx (List.mem_cons_of_mem _ z))
        rw [hn L (by rw [← h]; exact n1)]
        show (if (Sum.inl e.1 : L2.Key) = Sum.inl k then _ else _) :: _ = _
        rw [if_pos (by rw [h])]
      · rw [if_neg h]
        have hk' : k ∈ Tr.ks L := by
          rcases List.mem_cons.mp hk with z | z
          · exact absurd z.symm h
          · exact z
        show (if (Sum.inl e.1 : L2.Key) = Sum.inl k then _ else _) :: _ = (Sum.inl e.1, f e.2) :: dkW f (Tr.pt L k v)
        rw [if_neg (fun z => h (Sum.inl.inj z)), ← ih n2 hk']
        rfl
  · have hv : valV (dkW f L) (Sum.inl k : L2.Key) = none := by
      rw [valV_dkW]
      cases e : Tr.gv L k with
      | none => rfl
      | some x => exact absurd (Tr.gv_ks e) hk
    rw [putK_new _ hv]
    induction L with
    | nil => rfl
    | cons e L ih =>
      have h : ¬ e.1 = k := fun z => hk (by rw [← z]; exact List.mem_cons_self)
      unfold Tr.pt
      rw [if_neg h]
      show _ :: (dkW f L ++ _) = _ :: dkW f _
      rw [ih (List.nodup_cons.mp nd).2 (fun z => hk (List.mem_cons_of_mem _ z)) (by rw [valV_dkW] ; cases e' : Tr.gv L k with
        | none => rfl
        | some x => exact absurd (List.mem_cons_of_mem _ (Tr.gv_ks e')) hk)]
theorem dkW_len {β : Type} (f : β → V) (L : List (Int × β)) : (dkW f L).length = L.length := by unfold dkW; rw [List.length_map]
theorem dkW_get {β : Type} (f : β → V) (L : List (Int × β)) (i : Nat) : (dkW f L)[i]? = (L[i]?).map fun e => (Sum.inl e.1, f e.2) := by unfold dkW; rw [List.getElem?_map]
abbrev dk (r : Tr.Row) : List (L2.Key × V) := dkW V.int r
/-- pairs' values mapped -/
theorem gv_map {β γ : Type} (f : β → γ) (L : List (Int × β)) (k : Int) : Tr.gv (L.map fun e => (e.1, f e.2)) k = (Tr.gv L k).map f := by
  induction L with
  | nil => rfl
  | cons e L ih =>
    show (if e.1 = k then some (f e.2) else Tr.gv (L.map _) k) = (if e.1 = k then some e.2 else Tr.gv L k).map f
    by_cases h : e.1 = k
    · rw [if_pos h, if_pos h]; rfl
    · rw [if_neg h, if_neg h]; exact ih
theorem pt_map {β γ : Type} (f : β → γ) (L : List (Int × β)) (k : Int) (v : β) : (Tr.pt L k v).map (fun e => (e.1, f e.2)) = Tr.pt (L.map fun e => (e.1, f e.2)) k (f v) := by
  induction L with
  | nil => rfl
  | cons e L ih =>
    show (if e.1 = k then (e.1, v) :: L else e :: Tr.pt L k v).map (fun e => (e.1, f e.2)) = (if e.1 = k then (e.1, f v) :: L.map (fun e => (e.1, f e.2)) else (e.1, f e.2) :: Tr.pt (L.map fun e => (e.1, f e.2)) k (f v))
    by_cases h : e.1 = k
    · rw [if_pos h, if_pos h]; rfl
    · rw [if_neg h, if_neg h, List.map_cons, ih]
theorem ks_map {β γ : Type} (f : β → γ) (L : List (Int × β)) : Tr.ks (L.map fun e => (e.1, f e.2)) = Tr.ks L := by
  show List.map _ (List.map _ _) = _; rw [List.map_map]; rfl
theorem pt_len {β : Type} (L : List (Int × β)) (k : Int) (v : β) : (Tr.pt L k v).length ≤ L.length + 1 := by
  induction L with
  | nil => simp [Tr.pt]
  | cons e L ih =>
    unfold Tr.pt
    split
    · simp
    · rw [List.length_cons, List.length_cons]; omega
theorem DGet.dkW {β : Type} {H : Hp} {a : Addr} (f : β → V) {L : List (Int × β)} (h : Rd H a (.dK (dkW f L))) {k : Int} {x : β} (e : Tr.gv L k = some x) : DGet H a (.int k) (some (f x)) :=
  .inl ⟨_, Sum.inl k, h, rfl, by rw [valV_dkW, e]; rfl⟩
theorem DGet.dkO {β : Type} {H : Hp} {a : Addr} (f : β → V) {L : List (Int × β)} (h : Rd H a (.dK (Pv.dkW f L))) (k : Int) : DGet H a (.int k) ((Tr.gv L k).map f) :=
  .inl ⟨_, Sum.inl k, h, rfl, by rw [valV_dkW]⟩
theorem DPut.dkW {β : Type} {H : Hp} {a : Addr} (f : β → V) {L : List (Int × β)} (nd : (Tr.ks L).Nodup) (h : H a = some (.dK (Pv.dkW f L))) (hl : L.length < sizeLine) (k : Int) (x : β) : DPut H a (.int k) (f x) (upd H a (.dK (Pv.dkW f (Tr.pt L k x)))) :=
  .inl ⟨_, Sum.inl k, h, rfl, by rw [dkW_len]; exact hl, by rw [putK_dkW f nd]⟩
end Pv

/-! How long the waiting list of a search can grow: every label is the cost of a simple path. -/
namespace Pv
namespace Tr
def pc (t : T) (L : Row) : List Int → Option Int
  | [] => none
  | [v] => gv L v
  | b :: a :: P => match pc t L (a :: P), gv (moves t a) b with
    | some c, some m => some (c + m.1)
    | _, _ => none
structure SP (t : T) (L : Row) (s : S) : Prop where
  ex : ∀ v l, gv s.found v = some l → ∃ P, pc t L (v :: P) = some l.1 ∧ l.2.1 = (P.length : Int) + 1 ∧ (v :: P).Nodup ∧ (∀ u ∈ v :: P, 0 ≤ u ∧ u < t.room.length) ∧
    ∀ A u B, v :: P = A ++ u :: B → ∃ lu cu, gv s.found u = some lu ∧ pc t L (u :: B) = some cu ∧ leP (lk lu) (cu, (B.length : Int) + 1)
section
variable {t : T} {p : Int → Int} {L : Row} {ℓ : Int}
theorem pc_cons {b a : Int} {P : List Int} {x : Int} (h : pc t L (b :: a :: P) = some x) : ∃ c m, pc t L (a :: P) = some c ∧ gv (moves t a) b = some m ∧ x = c + m.1 := by
  unfold pc at h
  cases e1 : pc t L (a :: P) with
  | none => rw [e1] at h; cases h
  | some c =>
    cases e2 : gv (moves t a) b with
    | none => rw [e1, e2] at h; cases h
    | some m => rw [e1, e2] at h; cases h; exact ⟨c, m, rfl, rfl, rfl⟩
theorem pc_more {b a : Int} {P : List Int} {c : Int} {m : Int × Int} (h : pc t L (a :: P) = some c) (g : gv (moves t a) b = some m) : pc t L (b :: a :: P) = some (c + m.1) := by
  unfold pc; rw [h, g]
/-- behind a column nothing is won -/
theorem pc_pot (hp : Pot t p) : ∀ {A : List Int} {v u : Int} {P B : List Int} {x y : Int}, v :: P = A ++ u :: B → pc t L (v :: P) = some x → pc t L (u :: B) = some y → y + p u ≤ x + p v
  | [], v, u, P, B, x, y, e, h1, h2 => by
    cases e
    rw [h1] at h2; cases h2; exact Int.le_refl _
  | a :: A, v, u, P, B, x, y, e, h1, h2 => by
    have e : v :: P = a :: (A ++ u :: B) := e
    obtain ⟨e1, e2⟩ := List.cons.inj e
    subst e1 e2
    cases hA : A ++ u :: B with
    | nil => simp at hA
    | cons b Q =>
      rw [hA] at h1
      obtain ⟨c, m, e1, e2, rfl⟩ := pc_cons h1
      have ih := pc_pot hp hA.symm e1 h2
      obtain ⟨i, _, ar⟩ := moves_arc.2 _ m.1 m.2 e2
      have := hp.tight _ _ _ _ ar
      omega
theorem offer1_path (W : Wf t) (hp : Pot t p) {s : S} {a : Int} {l : Lb} {m : Int × Int × Int} (I : SI t p L ℓ s) (G : SP t L s) (ea : gv s.found a = some l) (ra : rm t a ≤ 0) (hm : gv (moves t a) m.1 = some m.2) : SP t L (offer1 a l s m) := by
  obtain ⟨I', le, _, _, _⟩ := offer1_ok W hp I ea ra hm
  have mono : ∀ {u : Int} {B : List Int}, (∃ lu cu, gv s.found u = some lu ∧ pc t L (u :: B) = some cu ∧ leP (lk lu) (cu, (B.length : Int) + 1)) → ∃ lu cu, gv (offer1 a l s m).found u = some lu ∧ pc t L (u :: B) = some cu ∧ leP (lk lu) (cu, (B.length : Int) + 1) := fun {u B} ⟨lu, cu, e1, e2, q⟩ => by
    obtain ⟨l2, e3, q2⟩ := le.le u lu e1
    exact ⟨l2, cu, e3, e2, q2.trans q⟩
  by_cases hb : better s.found m.1 (l.1 + m.2.1, l.2.1 + 1) = true
  · have eo : offer1 a l s m = ⟨pt s.found m.1 (l.1 + m.2.1, l.2.1 + 1, m.2.2, some a), s.wait ++ [m.1]⟩ := by unfold offer1; rw [if_pos hb]
    refine ⟨fun v l0 e => ?_⟩
    have e' := e
    rw [eo] at e'
    have e' : gv (pt s.found m.1 (l.1 + m.2.1, l.2.1 + 1, m.2.2, some a)) v = some l0 := e'
    rw [gv_pt] at e'
    by_cases z : m.1 = v
    · rw [if_pos z] at e'
      cases e'
      subst z
      obtain ⟨P, h1, h2, h3, h4, h5⟩ := G.ex a l ea
      have hnew : pc t L (m.1 :: a :: P) = some (l.1 + m.2.1) := pc_more h1 hm
      obtain ⟨i, _, ar⟩ := moves_arc.2 m.1 m.2.1 m.2.2 hm
      have hnot : ¬ m.1 ∈ a :: P := fun hin => by
        obtain ⟨A, B, eAB⟩ := List.append_of_mem hin
        obtain ⟨lu, cu, f1, f2, f3⟩ := h5 A m.1 B eAB
        have hpot := pc_pot hp eAB h1 f2
        have ht := hp.tight _ _ _ _ ar
        have hlen : B.length ≤ P.length := by
          have := congrArg List.length eAB
          rw [List.length_cons, List.length_append, List.length_cons] at this
          omega
        unfold better at hb
        rw [f1] at hb
        have hb := ltP_iff.mp hb
        unfold leP at f3
        simp only at hb f3
        omega
      refine ⟨a :: P, hnew, by show l.2.1 + 1 = ((a :: P).length : Int) + 1; rw [h2, List.length_cons]; omega, List.nodup_cons.mpr ⟨hnot, h3⟩, fun u hu => ?_, fun A u B eA => ?_⟩
      · rcases List.mem_cons.mp hu with q | q
        · rw [q]; exact (W.arc ar).2
        · exact h4 u q
      · cases A with
        | nil =>
          cases eA
          refine ⟨_, _, e, hnew, ?_⟩
          refine .inr ⟨rfl, ?_⟩
          show l.2.1 + 1 ≤ ((a :: P).length : Int) + 1
          rw [h2, List.length_cons]
          omega
        | cons x A =>
          have eA : m.1 :: a :: P = x :: (A ++ u :: B) := eA
          obtain ⟨_, e2⟩ := List.cons.inj eA
          exact mono (h5 A u B e2)
    · rw [if_neg z] at e'
      obtain ⟨P, h1, h2, h3, h4, h5⟩ := G.ex v l0 e'
      exact ⟨P, h1, h2, h3, h4, fun A u B eA => mono (h5 A u B eA)⟩
  · rw [show offer1 a l s m = s by unfold offer1; rw [if_neg hb]]
    exact G
theorem init_path (hr : ∀ k ∈ ks L, 0 ≤ k ∧ k < t.room.length) : SP t L (init L ℓ) := by
  refine ⟨fun v l e => ?_⟩
  have e0 := e
  rw [gv_init] at e
  obtain ⟨x, e1, rfl⟩ := Option.map_eq_some_iff.mp e
  refine ⟨[], e1, rfl, List.nodup_cons.mpr ⟨by simp, List.nodup_nil⟩, fun u hu => by
    have : u = v := by simpa using hu
    rw [this]; exact hr v (gv_ks e1), fun A u B eA => ?_⟩
  cases A with
  | nil => cases eA; exact ⟨_, x, e0, e1, leP.refl _⟩
  | cons a A =>
    have eA : v :: [] = a :: (A ++ u :: B) := eA
    obtain ⟨_, e2⟩ := List.cons.inj eA
    simp at e2
end
/-! ### counting -/
def lists (m : Nat) : Nat → List (List Int)
  | 0 => [[]]
  | k + 1 => [] :: (List.range m).flatMap fun (a : Nat) => (lists m k).map fun P => (a : Int) :: P
def geo : Nat → Nat
  | 0 => 1
  | k + 1 => 1 + 7 * geo k
theorem lists_len {m : Nat} (h : m ≤ 7) : ∀ k, (lists m k).length ≤ geo k
  | 0 => Nat.le_refl _
  | k + 1 => by
    have ih := lists_len h k
    have : ((List.range m).flatMap fun (a : Nat) => (lists m k).map fun P => (a : Int) :: P).length = m * (lists m k).length := by
      simp only [List.length_flatMap, List.length_map]
      have : ∀ (r : List Nat) (c : Nat), (r.map fun _ => c).sum = r.length * c := fun r c => by
        induction r with
        | nil => simp
        | cons a r ih => simp only [List.map_cons, List.sum_cons, List.length_cons]; rw [ih, Nat.succ_mul]; omega
      rw [this, List.length_range]
    show (_ :: _).length ≤ 1 + 7 * geo k
    rw [List.length_cons, this]
    have := Nat.mul_le_mul h ih
    omega
theorem lists_mem {m : Nat} : ∀ {k : Nat} {P : List Int}, P.length ≤ k → (∀ u ∈ P, 0 ≤ u ∧ u < m) → P ∈ lists m k
  | 0, P, h, _ => by
    have : P = [] := List.eq_nil_of_length_eq_zero (by omega)
    rw [this]; exact List.mem_cons_self
  | k + 1, [], _, _ => List.mem_cons_self
  | k + 1, a :: P, h, g => by
    refine List.mem_cons_of_mem _ (List.mem_flatMap.mpr ⟨a.toNat, ?_, ?_⟩)
    · have := g a List.mem_cons_self
      exact List.mem_range.mpr (by omega)
    · have := g a List.mem_cons_self
      refine List.mem_map.mpr ⟨P, lists_mem (by simpa using h) (fun u hu => g u (List.mem_cons_of_mem _ hu)), ?_⟩
      show ((a.toNat : Nat) : Int) :: P = a :: P
      rw [show ((a.toNat : Nat) : Int) = a by omega]
def vals (t : T) (L : Row) : List (Int × Int) := (lists t.room.length t.room.length).filterMap fun P => (pc t L P).map fun c => (c, (P.length : Int))
def rk (V : List (Int × Int)) (o : Option Lb) : Nat := match o with
  | none => V.length
  | some l => (V.filter fun x => ltP x (lk l)).length
theorem rk_lt {V : List (Int × Int)} {l : Lb} (h : lk l ∈ V) {o : Option Lb} (ho : o = none ∨ ∃ l0, o = some l0 ∧ ltP (lk l) (lk l0) = true) : rk V (some l) < rk V o := by
  have irr : ltP (lk l) (lk l) = false := by
    cases e : ltP (lk l) (lk l) with
    | false => rfl
    | true => rw [ltP_iff] at e; omega
  have key : ∀ (q : Int × Int → Bool), (∀ x ∈ V, ltP x (lk l) = true → q x = true) → q (lk l) = true → (V.filter fun x => ltP x (lk l)).length < (V.filter q).length := fun q hq hl => by
    clear ho
    induction V with
    | nil => cases h
    | cons x V ih =>
      have hmono : ∀ V' : List (Int × Int), (∀ x ∈ V', ltP x (lk l) = true → q x = true) → (V'.filter fun x => ltP x (lk l)).length ≤ (V'.filter q).length := fun V' => by
        induction V' with
        | nil => intro _; exact Nat.le_refl _
        | cons y V' ih' =>
          intro hy
          have := ih' fun z hz => hy z (List.mem_cons_of_mem _ hz)
          rw [List.filter_cons, List.filter_cons]
          by_cases e : ltP y (lk l) = true
          · rw [if_pos e, if_pos (hy y List.mem_cons_self e)]
            simp only [List.length_cons]; omega
          · rw [if_neg e]
            split
            · simp only [List.length_cons]; omega
            · exact this
      rw [List.filter_cons, List.filter_cons]
      rcases List.mem_cons.mp h with z | z
      · rw [← z, if_neg (by rw [irr]; simp), if_pos hl]
        have := hmono V fun y hy => hq y (List.mem_cons_of_mem _ hy)
        simp only [List.length_cons]; omega
      · have := ih z fun y hy => hq y (List.mem_cons_of_mem _ hy)
        by_cases e : ltP x (lk l) = true
        · rw [if_pos e, if_pos (hq x List.mem_cons_self e)]
          simp only [List.length_cons]; omega
        · rw [if_neg e]
          split
          · simp only [List.length_cons]; omega
          · exact this
  rcases ho with rfl | ⟨l0, rfl, h0⟩
  · have := key (fun _ => true) (fun _ _ _ => rfl) rfl
    rw [List.filter_eq_self.mpr (fun _ _ => rfl)] at this
    exact this
  · refine key (fun x => ltP x (lk l0)) (fun x _ hx => ?_) h0
    rw [ltP_iff] at hx h0 ⊢
    omega
def sumR (t : T) (L : Row) (F : List (Int × Lb)) : Nat := ((List.range t.room.length).map fun (v : Nat) => rk (vals t L) (gv F (v : Int))).sum
theorem sum_lt {f g : Nat → Nat} : ∀ {r : List Nat}, (∀ v ∈ r, f v ≤ g v) → (∃ v ∈ r, f v < g v) → (r.map f).sum < (r.map g).sum
  | [], _, h => by obtain ⟨v, hv, _⟩ := h; cases hv
  | x :: r, h, ⟨v, hv, q⟩ => by
    have hle : ∀ r' : List Nat, (∀ v ∈ r', f v ≤ g v) → (r'.map f).sum ≤ (r'.map g).sum := fun r' => by
      induction r' with
      | nil => intro _; exact Nat.le_refl _
      | cons y r' ih => intro hy; have := ih fun z hz => hy z (List.mem_cons_of_mem _ hz); have := hy y List.mem_cons_self; simp only [List.map_cons, List.sum_cons]; omega
    have h1 := h x List.mem_cons_self
    have h2 := hle r fun z hz => h z (List.mem_cons_of_mem _ hz)
    simp only [List.map_cons, List.sum_cons]
    rcases List.mem_cons.mp hv with z | z
    · subst z; omega
    · have := sum_lt (r := r) (fun z hz => h z (List.mem_cons_of_mem _ hz)) ⟨v, z, q⟩
      omega
def bud (t : T) (L : Row) (s : S) : Nat := s.wait.length + sumR t L s.found
section
variable {t : T} {p : Int → Int} {L : Row} {ℓ : Int}
theorem offer1_bud (W : Wf t) (hp : Pot t p) {s : S} {a : Int} {l : Lb} {m : Int × Int × Int} (I : SI t p L ℓ s) (G : SP t L s) (ea : gv s.found a = some l) (ra : rm t a ≤ 0) (hm : gv (moves t a) m.1 = some m.2) : bud t L (offer1 a l s m) ≤ bud t L s := by
  have G' := offer1_path W hp I G ea ra hm
  by_cases hb : better s.found m.1 (l.1 + m.2.1, l.2.1 + 1) = true
  · have eo : offer1 a l s m = ⟨pt s.found m.1 (l.1 + m.2.1, l.2.1 + 1, m.2.2, some a), s.wait ++ [m.1]⟩ := by unfold offer1; rw [if_pos hb]
    rw [eo] at G' ⊢
    obtain ⟨i, _, ar⟩ := moves_arc.2 m.1 m.2.1 m.2.2 hm
    have rb := (W.arc ar).2
    let o : Lb := (l.1 + m.2.1, l.2.1 + 1, m.2.2, some a)
    have go : gv (pt s.found m.1 o) m.1 = some o := by rw [gv_pt, if_pos rfl]
    obtain ⟨P, h1, h2, h3, h4, _⟩ := G'.ex m.1 o go
    have hin : lk o ∈ vals t L := by
      refine List.mem_filterMap.mpr ⟨m.1 :: P, lists_mem ?_ h4, ?_⟩
      · exact nodup_range h3 h4
      · rw [h1]
        show some (o.1, ((m.1 :: P).length : Int)) = some (o.1, o.2.1)
        rw [h2, List.length_cons]; rfl
    have hlt : gv s.found m.1 = none ∨ ∃ l0, gv s.found m.1 = some l0 ∧ ltP (lk o) (lk l0) = true := by
      unfold better at hb
      cases e : gv s.found m.1 with
      | none => exact .inl rfl
      | some l0 => rw [e] at hb; exact .inr ⟨l0, rfl, hb⟩
    have hr := rk_lt hin hlt
    have hs : sumR t L (pt s.found m.1 o) < sumR t L s.found := by
      refine sum_lt (fun v _ => ?_) ⟨m.1.toNat, List.mem_range.mpr (by omega), ?_⟩
      · rw [gv_pt]
        by_cases z : m.1 = (v : Int)
        · rw [if_pos z, ← z]; exact Nat.le_of_lt hr
        · rw [if_neg z]; exact Nat.le_refl _
      · rw [show ((m.1.toNat : Nat) : Int) = m.1 by omega, go]; exact hr
    show (s.wait ++ [m.1]).length + sumR t L (pt s.found m.1 o) ≤ s.wait.length + sumR t L s.found
    rw [List.length_append, List.length_singleton]
    omega
  · rw [show offer1 a l s m = s by unfold offer1; rw [if_neg hb]]
    exact Nat.le_refl _
theorem fold_bud (W : Wf t) (hp : Pot t p) {a : Int} {l : Lb} (ra : rm t a ≤ 0) : ∀ {ms : Mv} {s : S}, SI t p L ℓ s → SP t L s → gv s.found a = some l → (∀ m ∈ ms, gv (moves t a) m.1 = some m.2) → SP t L (ms.foldl (offer1 a l) s) ∧ bud t L (ms.foldl (offer1 a l) s) ≤ bud t L s
  | [], s, _, G, _, _ => ⟨G, Nat.le_refl _⟩
  | m :: ms, s, I, G, ea, hm => by
    obtain ⟨I1, _, ea1, _, _⟩ := offer1_ok W hp I ea ra (hm m List.mem_cons_self)
    have G1 := offer1_path W hp I G ea ra (hm m List.mem_cons_self)
    have b1 := offer1_bud W hp I G ea ra (hm m List.mem_cons_self)
    obtain ⟨G2, b2⟩ := fold_bud W hp ra I1 G1 ea1 fun m' h => hm m' (List.mem_cons_of_mem _ h)
    rw [List.foldl_cons]
    exact ⟨G2, Nat.le_trans b2 b1⟩
theorem SP.pop {s : S} {w : List Int} (G : SP t L s) : SP t L ⟨s.found, w⟩ := ⟨G.ex⟩
theorem step_bud (W : Wf t) (hp : Pot t p) {s : S} (h : Inv t p L ℓ s) (G : SP t L s) : SP t L (stepS t s) ∧ bud t L (stepS t s) ≤ bud t L s := by
  obtain ⟨I, _⟩ := h
  cases e : s.wait with
  | nil => rw [show stepS t s = s by unfold stepS; rw [e]]; exact ⟨G, Nat.le_refl _⟩
  | cons a w =>
    rw [show stepS t s = if 0 < rm t a then ⟨s.found, w⟩ else expand t a ⟨s.found, w⟩ by unfold stepS; rw [e]]
    have Ip := I.pop e
    have bp : bud t L ⟨s.found, w⟩ ≤ bud t L s := by unfold bud; rw [e]; simp only [List.length_cons]; omega
    by_cases hr : 0 < rm t a
    · rw [if_pos hr]; exact ⟨G.pop, bp⟩
    · rw [if_neg hr]
      obtain ⟨l, ea⟩ := I.wt a (by rw [e]; exact List.mem_cons_self)
      rw [show expand t a ⟨s.found, w⟩ = (moves t a).foldl (offer1 a l) ⟨s.found, w⟩ by unfold expand; simp only [ea]]
      obtain ⟨G2, b2⟩ := fold_bud W hp (by omega : rm t a ≤ 0) Ip G.pop ea fun m h => gv_of_mem (moves_arc (t := t) (a := a)).1 h
      exact ⟨G2, Nat.le_trans b2 bp⟩
theorem stepN_bud (W : Wf t) (hp : Pot t p) : ∀ {n : Nat} {s : S}, Inv t p L ℓ s → SP t L s → SP t L (stepN t n s) ∧ bud t L (stepN t n s) ≤ bud t L s
  | 0, _, _, G => ⟨G, Nat.le_refl _⟩
  | n + 1, s, h, G => by
    obtain ⟨G1, b1⟩ := step_bud W hp h G
    obtain ⟨G2, b2⟩ := stepN_bud W hp (n := n) (step_ok W hp h).1 G1
    exact ⟨G2, Nat.le_trans b2 b1⟩
theorem geo_mono {a b : Nat} (h : a ≤ b) : geo a ≤ geo b := by
  induction h with
  | refl => exact Nat.le_refl _
  | step _ ih => exact Nat.le_trans ih (by show geo _ ≤ 1 + 7 * geo _; omega)
theorem sum_le {f : Nat → Nat} {B : Nat} : ∀ r : List Nat, (∀ v ∈ r, f v ≤ B) → (r.map f).sum ≤ r.length * B
  | [], _ => by simp
  | x :: r, h => by
    have := sum_le r fun v hv => h v (List.mem_cons_of_mem _ hv)
    have := h x List.mem_cons_self
    simp only [List.map_cons, List.sum_cons, List.length_cons]
    rw [Nat.succ_mul]
    omega
theorem init_bud (hm : t.room.length ≤ 7) (hL : (ks L).Nodup) (hr : ∀ k ∈ ks L, 0 ≤ k ∧ k < t.room.length) : bud t L (init L ℓ) ≤ 6800000 := by
  have h1 := nodup_range hL hr
  have h2 : (vals t L).length ≤ geo 7 := Nat.le_trans (List.length_filterMap_le _ _) (Nat.le_trans (lists_len hm _) (geo_mono hm))
  have g7 : geo 7 = 960800 := by decide
  have h3 : sumR t L (init L ℓ).found ≤ (List.range t.room.length).length * geo 7 := sum_le _ fun v _ => by
    cases gv (init L ℓ).found (v : Int) with
    | none => exact h2
    | some l => exact Nat.le_trans (show ((vals t L).filter fun x => ltP x (lk l)).length ≤ _ from List.length_filter_le _ _) h2
  rw [List.length_range, g7] at h3
  have := Nat.mul_le_mul_right 960800 hm
  show (ks L).length + _ ≤ _
  omega
end
end Tr
end Pv

set_option maxHeartbeats 1000000
namespace Pv
open PySem PySem.Spec PyProof.Rows L2
/-! a Transport in the heap, and what its methods promise -/
theorem kRC : ¬ (("room" : Str) = "costs") := by decide +kernel
theorem kRP : ¬ (("room" : Str) = "plan") := by decide +kernel
theorem kCP : ¬ (("costs" : Str) = "plan") := by decide +kernel
def fldsT (r c p : Addr) : List (Str × V) := putF "plan" (.ref p) (putF "costs" (.ref c) (putF "room" (.ref r) []))
theorem fT_room (r c p : Addr) : (fldsT r c p).lookup ("room" : Str) = some (.ref r) := by
  unfold fldsT
  rw [lookup_putF, if_neg kRP, lookup_putF, if_neg kRC, lookup_putF, if_pos rfl]
theorem fT_costs (r c p : Addr) : (fldsT r c p).lookup ("costs" : Str) = some (.ref c) := by
  unfold fldsT
  rw [lookup_putF, if_neg kCP, lookup_putF, if_pos rfl]
theorem fT_plan (r c p : Addr) : (fldsT r c p).lookup ("plan" : Str) = some (.ref p) := by
  unfold fldsT
  rw [lookup_putF, if_pos rfl]
theorem fT_no (r c p : Addr) {m : Str} (h1 : ¬ m = "room") (h2 : ¬ m = "costs") (h3 : ¬ m = "plan") : (fldsT r c p).lookup m = none := by
  unfold fldsT
  rw [lookup_putF, if_neg h3, lookup_putF, if_neg h2, lookup_putF, if_neg h1]
  all_goals rfl
structure TTx (K : PySem.W.Frag) (mg : Str → Option Value) (C : Addr) : Prop where
  cl : Cls K C
  nR : NoAttr K C "room"
  nC : NoAttr K C "costs"
  nP : NoAttr K C "plan"
  mgC : mg "Transport" = some (.ref C)
structure TrAt (C : Addr) (H : Hp) (x r c p : Addr) (cd pd : List Addr) (t : Tr.T) : Prop where
  ob : ∃ dx, H x = some (.ins C dx (fldsT r c p))
  rm : H r = some (.lst (t.room.map V.int))
  cs : H c = some (.lst (cd.map V.ref))
  pl : H p = some (.lst (pd.map V.ref))
  lc : cd.length = t.costs.length
  lp : pd.length = t.plan.length
  cds : ∀ (i : Nat) (a : Addr) (Q : Tr.Row), cd[i]? = some a → t.costs[i]? = some Q → H a = some (.dK (dk Q))
  pds : ∀ (i : Nat) (a : Addr) (P : Tr.Row), pd[i]? = some a → t.plan[i]? = some P → H a = some (.dK (dk P))
  nd : pd.Nodup
  dj : ∀ a ∈ pd, ¬ a ∈ cd
  rc : r ≠ c
  rp : r ≠ p
  cp : c ≠ p
theorem TrAt.same {C : Addr} {H H' : Hp} {x r c p : Addr} {cd pd : List Addr} {t : Tr.T} (h : TrAt C H x r c p cd pd t) (s : Same H H') : TrAt C H' x r c p cd pd t := by
  obtain ⟨dx, ob⟩ := h.ob
  exact ⟨⟨dx, s _ _ ob⟩, s _ _ h.rm, s _ _ h.cs, s _ _ h.pl, h.lc, h.lp, fun i a Q e1 e2 => s _ _ (h.cds i a Q e1 e2), fun i a P e1 e2 => s _ _ (h.pds i a P e1 e2), h.nd, h.dj, h.rc, h.rp, h.cp⟩
theorem TrAt.cd {C : Addr} {H : Hp} {x r c p : Addr} {cd pd : List Addr} {t : Tr.T} (h : TrAt C H x r c p cd pd t) {i : Nat} {Q : Tr.Row} (e : t.costs[i]? = some Q) : ∃ a, cd[i]? = some a ∧ H a = some (.dK (dk Q)) := by
  have hi := (List.getElem?_eq_some_iff.mp e).1
  have hi2 : i < cd.length := by rw [h.lc]; exact hi
  exact ⟨_, List.getElem?_eq_getElem hi2, h.cds i _ Q (List.getElem?_eq_getElem hi2) e⟩
theorem TrAt.pd {C : Addr} {H : Hp} {x r c p : Addr} {cd pd : List Addr} {t : Tr.T} (h : TrAt C H x r c p cd pd t) {i : Nat} {P : Tr.Row} (e : t.plan[i]? = some P) : ∃ a, pd[i]? = some a ∧ H a = some (.dK (dk P)) := by
  have hi := (List.getElem?_eq_some_iff.mp e).1
  have hi2 : i < pd.length := by rw [h.lp]; exact hi
  exact ⟨_, List.getElem?_eq_getElem hi2, h.pds i _ P (List.getElem?_eq_getElem hi2) e⟩
/-- a dict from ints to tuples -/
def DTup {β : Type} (K : PySem.W.Frag) (H : Hp) (R : Addr → HO → Prop) (f : β → List V) (d : Addr) (F : List (Int × β)) : Prop :=
  ∃ L : List (Int × (Addr × β)), R d (.dK (dkW (fun x => V.ref x.1) L)) ∧ F = L.map (fun e => (e.1, e.2.2)) ∧ ∀ k x, Tr.gv L k = some x → SqT K H x.1 (f x.2)
abbrev Is (H : Hp) : Addr → HO → Prop := fun d o => H d = some o
def stV : Option Int → V
  | none => .non
  | some a => .int a
def lbV (l : Tr.Lb) : List V := [.int l.1, .int l.2.1, .int l.2.2.1, stV l.2.2.2]
def mvV (m : Int × Int) : List V := [.int m.1, .int m.2]
theorem rdS {H H' : Hp} {a : Addr} {o : HO} (s : Same H H') (h : Rd H a o) : Rd H' a o := by
  rcases h with h | ⟨u, h⟩
  · exact .inl (s _ _ h)
  · exact .inr ⟨u, s _ _ h⟩
theorem sl_drop2 {K : PySem.W.Frag} {H : Hp} {a : Addr} {xs : List V} {Q : VK} {σ : L2.St} (hP : SqT K H a xs) (h : ∀ (H' : Hp) (b : Addr), Same H H' → SqT K H' b (xs.drop 2) → Q (.ref b) H') : tNoPart σ H (fun u H3 => rSlA K (.ref a) (some (2 : Int)) u H3 Q) := drop_eq hP 2 h
theorem sl_take2 {K : PySem.W.Frag} {H : Hp} {a : Addr} {xs : List V} {Q : VK} {σ : L2.St} (hP : SqT K H a xs) (h : ∀ (H' : Hp) (b : Addr), Same H H' → SqT K H' b (xs.take 2) → Q (.ref b) H') : tNoPart σ H (fun l H2 => tPart (tC (V.int 2)) σ H2 fun u H3 => rSlA K (.ref a) l u H3 Q) := ⟨2, rfl, take_eq hP 2 h⟩
theorem TupK.chg {H : Hp} {p : Addr} {o : HO} (h1 : ∀ xs, H p ≠ some (.tup xs)) (h2 : ∀ u xs, H p ≠ some (.frz u (.tup xs))) : TupK H (upd H p o) := by
  intro b xs
  refine ⟨fun h => ?_, fun u h => ?_⟩
  · rw [upd_ne (fun z => h1 xs (by rw [← z]; exact h))]; exact h
  · rw [upd_ne (fun z => h2 u xs (by rw [← z]; exact h))]; exact h
theorem TupK.dK {H : Hp} {p : Addr} {o : HO} {kvs : List (L2.Key × V)} (h : Rd H p (.dK kvs)) : TupK H (upd H p o) := by
  rcases h with h | ⟨u, h⟩
  · exact .chg (fun xs z => by rw [h] at z; cases z) (fun u xs z => by rw [h] at z; cases z)
  · exact .chg (fun xs z => by rw [h] at z; cases z) (fun u xs z => by rw [h] at z; cases z)
theorem mvFrom_snoc {a : Int} : ∀ {i : Nat} {P C : List Tr.Row} {M : Tr.Mv} {p c : Tr.Row}, P.length = C.length → Tr.mvFrom a i (P ++ [p]) (C ++ [c]) M = if Tr.num p a = 0 then Tr.mvFrom a i P C M else Tr.mvRow c a (i + P.length) (Tr.mvFrom a i P C M)
  | i, [], [], M, p, c, _ => by
    show Tr.mvFrom a i [p] [c] M = if _ then Tr.mvFrom a i [] [] M else Tr.mvRow c a (i + 0) (Tr.mvFrom a i [] [] M)
    simp only [Tr.mvFrom, Nat.add_zero]
  | i, p' :: P, c' :: C, M, p, c, h => by
    show Tr.mvFrom a i (p' :: (P ++ [p])) (c' :: (C ++ [c])) M = _
    have ih := mvFrom_snoc (a := a) (i := i + 1) (P := P) (C := C) (M := if Tr.num p' a = 0 then M else Tr.mvRow c' a i M) (p := p) (c := c) (by simpa using h)
    simp only [Tr.mvFrom]
    rw [ih, List.length_cons, show i + (P.length + 1) = i + 1 + P.length by omega]
theorem num_getD (P : Tr.Row) (a : Int) : ((Tr.gv P a).map V.int).getD (.int 0) = V.int (Tr.num P a) := by
  unfold Tr.num
  cases Tr.gv P a <;> rfl
theorem num_gv {P : Tr.Row} {a v : Int} (h : Tr.gv P a = some v) : Tr.num P a = v := by unfold Tr.num; rw [h]; rfl
theorem atI_int {xs : List V} {i : Int} {v : V} (h0 : 0 ≤ i) (h : xs[i.toNat]? = some v) : atI xs i = some v := by
  have := atI_nat (j := i.toNat) h
  rwa [show ((i.toNat : Nat) : Int) = i by omega] at this
theorem rm_at {t : Tr.T} {a : Int} (h : 0 ≤ a ∧ a < t.room.length) : (t.room.map V.int)[a.toNat]? = some (V.int (Tr.rm t a)) := by
  rw [List.getElem?_map, List.getElem?_eq_getElem (by omega)]
  unfold Tr.rm
  rw [List.getD_eq_getElem?_getD, List.getElem?_eq_getElem (by omega)]
  rfl
theorem pt_new {β : Type} {L : List (Int × β)} {k : Int} {v : β} (h : ¬ k ∈ Tr.ks L) : Tr.pt L k v = L ++ [(k, v)] := by
  induction L with
  | nil => rfl
  | cons e L ih =>
    unfold Tr.pt
    rw [if_neg (fun z => h (by rw [← z]; exact List.mem_cons_self)), ih (fun z => h (List.mem_cons_of_mem _ z))]
    rfl
theorem line68 {n : Nat} (h : n ≤ 6900000) : n < sizeLine := by rw [sizeLine_eq]; omega
theorem lexLt_ltP (a b c d : Int) : HT.lexLt [a, b] [c, d] = Tr.ltP (a, b) (c, d) := by
  rw [HT.lexLt_cons, HT.lexLt_cons]
  unfold Tr.ltP
  by_cases h1 : a = c
  · rw [if_pos h1, if_pos h1]
    by_cases h2 : b = d
    · rw [if_pos h2, h2]; simp [HT.lexLt]
    · rw [if_neg h2]
  · rw [if_neg h1, if_neg h1]
/-- the steps of a way, as a list of tuples -/
def StL (K : PySem.W.Frag) (H : Hp) (as : List Addr) (st : List Tr.Step) : Prop := as.length = st.length ∧ ∀ (i : Nat) (a : Addr) (x : Tr.Step), as[i]? = some a → st[i]? = some x → SqT K H a [.int x.1, stV x.2.1, .int x.2.2]
section
variable (K : PySem.W.Frag) (C : Addr)
def spTI : Sp := fun vs H Q _ => ∃ (x dx a : Addr) (rs : List Int), vs = [.ref x, .ref a] ∧ H x = some (.ins C dx []) ∧ SqL K H a (rs.map V.int) ∧
  ∀ (H' : Hp) (r c p : Addr), H r = none → H c = none → H p = none → TrAt C H' x r c p [] [] ⟨rs, [], []⟩ → (∀ b o, H b = some o → b ≠ x → H' b = some o) → Q .non H'
def spWT : Sp := fun vs H Q _ => ∃ (d : Addr) (e : Int) (F : List (Int × Tr.Lb)) (st : List Tr.Step), vs = [.ref d, .int e] ∧ DTup K H (Rd H) lbV d F ∧ Tr.Way F e st ∧ st.length ≤ 1000 ∧
  ∀ (H' : Hp) (l : Addr) (as : List Addr), Same H H' → H l = none → H' l = some (.lst (as.map V.ref)) → StL K H' as st → Q (.ref l) H'
def spTM : Sp := fun vs H Q _ => ∃ (x r c p : Addr) (cd pd : List Addr) (t : Tr.T) (a : Int), vs = [.ref x, .int a] ∧ TrAt C H x r c p cd pd t ∧ Tr.Wf t ∧ t.room.length ≤ 7 ∧ t.plan.length ≤ 1000 ∧
  ∀ (H' : Hp) (d : Addr), Same H H' → H d = none → DTup K H' (Is H') mvV d (Tr.moves t a) → Q (.ref d) H'
def spTS : Sp := fun vs H Q _ => ∃ (x r c p : Addr) (cd pd : List Addr) (t : Tr.T) (L : Tr.Row) (ℓ : Nat) (pt : Int → Int), vs = [.ref x] ∧ TrAt C H x r c p cd pd t ∧ Tr.Wf t ∧ t.room.length ≤ 7 ∧ t.plan.length ≤ 1000 ∧ t.costs[ℓ]? = some L ∧ ℓ + 1 = t.plan.length ∧ Tr.Pot t pt ∧
  ∀ (H' : Hp) (d : Addr) (F : List (Int × Tr.Lb)), Same H H' → H d = none → DTup K H' (Is H') lbV d F → Tr.Search t L ℓ F → Q (.ref d) H'
/-- all but the room list and the plan's dicts stands -/
def PFr (r : Addr) (pd : List Addr) (H H' : Hp) : Prop := ∀ b o, H b = some o → b ≠ r → ¬ b ∈ pd → H' b = some o
def spTP : Sp := fun vs H Q _ => ∃ (x r c p d : Addr) (cd pd : List Addr) (t : Tr.T) (L : Tr.Row) (ℓ : Nat) (F : List (Int × Tr.Lb)) (e am : Int) (le : Tr.Lb), vs = [.ref x, .ref d, .int e, .int am] ∧ TrAt C H x r c p cd pd t ∧ Tr.Wf t ∧ t.room.length ≤ 7 ∧ t.plan.length ≤ 1000 ∧ t.costs[ℓ]? = some L ∧
  Tr.Fin t L ℓ F ∧ Tr.PushIn t L ℓ F e le (Tr.many t F e am) ∧ DTup K H (Rd H) lbV d F ∧ (∀ b, H b = none → ¬ b ∈ pd) ∧
  ∀ (H' : Hp), PFr r pd H H' → TrAt C H' x r c p cd pd (Tr.pushT t e (Tr.many t F e am) (Tr.way F e)) → Q (.int (Tr.many t F e am)) H'
/-- .. and the lists of dicts -/
def AFr (r c p : Addr) (pd : List Addr) (H H' : Hp) : Prop := ∀ b o, H b = some o → b ≠ r → b ≠ c → b ≠ p → ¬ b ∈ pd → H' b = some o
def spTA : Sp := fun vs H Q _ => ∃ (x r c p d : Addr) (cd pd : List Addr) (t : Tr.T) (L : Tr.Row) (am : Int) (pt : Int → Int), vs = [.ref x, .int am, .ref d] ∧ TrAt C H x r c p cd pd t ∧ Tr.Wf t ∧ t.room.length ≤ 7 ∧ t.plan.length < 1000 ∧ Tr.Pot t pt ∧
  H d = some (.dK (dk L)) ∧ (Tr.ks L).Nodup ∧ (∀ k ∈ Tr.ks L, 0 ≤ k ∧ k < t.room.length) ∧ ¬ d ∈ pd ∧
  ∀ (H' : Hp) (cd' pd' : List Addr) (t' : Tr.T) (r' : Option (List (Int × Tr.Lb))), AFr r c p pd H H' → TrAt C H' x r c p cd' pd' t' → (∀ a ∈ pd', a ∈ pd ∨ H a = none) → Tr.AddR L t.plan.length (Tr.newRow t L) am t' r' →
    (r' = none → Q .non H') ∧ ∀ F, r' = some F → ∀ (l : Addr) (ys : List Int), ys.Perm (Tr.ks F) → ys.Pairwise (· ≤ ·) → H' l = none → Q (.ref l) (upd H' l (.lst (ys.map V.int)))
def spTQ : Sp := fun vs H Q _ => ∃ (x r c p : Addr) (cd pd : List Addr) (t : Tr.T) (hi : Int), vs = [.ref x, .int hi] ∧ TrAt C H x r c p cd pd t ∧ Tr.Wf t ∧ t.room.length ≤ 7 ∧ t.plan.length ≤ 1000 ∧
  ∀ (H' : Hp) (l : Addr), Same H H' → H' l = some (.lst ((Tr.prices t hi).map V.int)) → Q (.ref l) H'
end
end Pv

namespace Pv
open PySem PySem.Spec PyProof.Rows L2
abbrev sTI : Stmt := inCls (topS 18) 0
theorem scTI : FnScope ["self", "room"] ["self", "room"] (defScope sTI) := ⟨rfl, rfl, rfl, by decide +kernel, rfl, by decide +kernel, by decide +kernel⟩
abbrev sWT : Stmt := topS 19
theorem scWT : FnScope ["found", "end", "steps", "row", "start"] ["found", "end"] (defScope sWT) := ⟨rfl, rfl, rfl, by decide +kernel, rfl, by decide +kernel, by decide +kernel⟩
abbrev sTM : Stmt := inCls (topS 18) 3
theorem scTM : FnScope ["self", "start", "moves", "row", "numbers", "costs", "end", "cost"] ["self", "start"] (defScope sTM) := ⟨rfl, rfl, rfl, by decide +kernel, rfl, by decide +kernel, by decide +kernel⟩
section
variable {P : Program} {w : World} {K : PySem.W.Frag} {mg : Str → Option Value} {base : Heap}
set_option maxHeartbeats 4000000 in
theorem ok_TI {f : Addr} {fd : FuncData} {cT : Addr} (T : TTx K mg cT) (F : Fun K "__init__" "Transport.__init__" sTI f fd)
    (m_list : mg "list" = none) :
    FnOk P w K mg base CX0 1 f fd ["self", "room"] (spTI K cT) := by
  refine F.ok scTI (fun vs H Q E h => ?_) (fun cdv A outer s H vs Q E hr h => ?_)
  · obtain ⟨x, dx, a, rs, rfl, _⟩ := h; rfl
  · obtain ⟨x, dx, a, rs, rfl, hx, ha, q⟩ := h
    refine ⟨_, pss_cons (ps_fld (pv 0) (pe_callTy call_list_of (by rfl) m_list (by decide +kernel) (pa_cons (pv 1) pa_nil)) rfl)
      (pss_cons (ps_fld (pv 0) (pe_lst (pa_nil)) rfl)
      (pss_one (ps_fld (pv 0) (pe_lst (pa_nil)) rfl))), ?_⟩
    have one : (0 : Nat) < 1000 := by decide
    refine ⟨.ref a, rfl, a, _, rfl, .inl ha, fun r nr => ?_⟩
    have nxr : x ≠ r := ne_of_none hx nr
    refine ⟨.ref x, rfl, x, cT, dx, [], rfl, (by rw [upd_ne nxr]; exact hx), T.cl, T.nR, (by show 0 < 1000; decide), Nat.zero_le _, fun c nc => ?_⟩
    have nxc : x ≠ c := ne_of_none (by rw [upd_same]) nc
    have nc1 : H c = none := by
      rw [upd_ne nxc.symm] at nc
      by_cases z : c = r
      · rw [z, upd_same] at nc; cases nc
      · rwa [upd_ne z] at nc
    have nrc : r ≠ c := fun z => by rw [← z] at nc; rw [upd_ne nxr.symm, upd_same] at nc; cases nc
    refine ⟨.ref x, rfl, x, cT, dx, _, rfl, (by rw [upd_ne nxc]; exact upd_same), T.cl, T.nC, (by show 1 < 1000; decide), Nat.zero_le _, fun p np => ?_⟩
    have nxp : x ≠ p := ne_of_none (by rw [upd_same]) np
    have nrp : r ≠ p := fun z => by rw [← z] at np; rw [upd_ne nxr.symm, upd_ne nrc, upd_ne nxr.symm, upd_same] at np; cases np
    have ncp : c ≠ p := fun z => by rw [← z] at np; rw [upd_ne nxc.symm, upd_same] at np; cases np
    have np1 : H p = none := by
      rw [upd_ne nxp.symm, upd_ne ncp.symm, upd_ne nxp.symm, upd_ne nrp.symm] at np; exact np
    refine ⟨.ref x, rfl, x, cT, dx, _, rfl, (by rw [upd_ne nxp]; exact upd_same), T.cl, T.nP, ?_, ?_⟩
    · show (if ("room" : Str) = "costs" then [(("room" : Str), V.ref c)] else (("room" : Str), V.ref r) :: putF "costs" (V.ref c) []).length < 1000
      rw [if_neg kRC]
      show 2 < 1000
      decide
    · refine q _ r c p nr nc1 np1 ⟨⟨dx, upd_same⟩, ?_, ?_, ?_, rfl, rfl, fun i b Q e => by simp at e, fun i b P e => by simp at e, List.nodup_nil, (fun b h => by cases h), nrc, nrp, ncp⟩ fun b o e nb => ?_
      · rw [upd_ne nxr.symm, upd_ne nrp, upd_ne nxr.symm, upd_ne nrc, upd_ne nxr.symm, upd_same]
      · rw [upd_ne nxc.symm, upd_ne ncp, upd_ne nxc.symm, upd_same]; rfl
      · rw [upd_ne nxp.symm, upd_same]; rfl
      · rw [upd_ne nb, upd_ne (ne_of_none e np1), upd_ne nb, upd_ne (ne_of_none e nc1), upd_ne nb, upd_ne (ne_of_none e nr)]
        exact e
set_option maxHeartbeats 4000000 in
theorem ok_WT {f : Addr} {fd : FuncData} (F : Fun K "way_to" "way_to" sWT f fd)
     :
    FnOk P w K mg base CX0 1 f fd ["found", "end"] (spWT K) := by
  refine F.ok scWT (fun vs H Q E h => ?_) (fun cdv A outer s H vs Q E hr h => ?_)
  · obtain ⟨d, e, F, st, rfl, _⟩ := h; rfl
  · obtain ⟨d, e, F, st, rfl, hd, hw, hn, q⟩ := h
    have hu64 : (A.deeper (envOfC "way_to" (defScope sWT) s.heap.objs.size f cdv)).units + 64 < cLine := by have := hr.un; omega
    refine ⟨_, pss_cons (ps_set (i := 2) scWT.nd rfl (.inl rfl) (pe_lst (pa_nil)))
      (pss_cons (ps_while PassesOwn.never (pt_cmp (pc_notN (pv 1)))
        (pss_cons (ps_asg (pe_slice sl_tupA (pe_dget (Nat.lt_of_le_of_lt (Nat.add_le_add_left (by decide) _) hu64) (pv 0) (pv 1) (fun _ _ => rfl)) (po_some (pe_int)) po_none) (pg_tup rfl (pgs_cons (pg_name (i := 3) scWT.nd rfl (.inl rfl)) (pgs_cons (pg_name (i := 4) scWT.nd rfl (.inl rfl)) pgs_nil))))
        (pss_cons (ps_expr (pe_bm PySem.F.plainAttrs_list PySem.F.slot_list_append PySem.F.type_list_append mt_append (pv 2) (pa_cons (pe_tup (pa_cons (pv 3) (pa_cons (pv 4) (pa_cons (pv 1) pa_nil)))) pa_nil)))
        (pss_one (ps_set (i := 1) scWT.nd rfl (.inl rfl) (pv 4))))))
      (pss_one (ps_ret (pv 2)))), ?_⟩
    refine ⟨Nat.zero_le _, fun l nl => ?_⟩
    have s0 := sameNew (o := .lst []) nl
    refine ⟨fun m σ Hc => ∃ (cur : Option Int) (pre rest : List Tr.Step) (as : List Addr) (y3 y4 : Option V), m = rest.length ∧ σ = [some (.ref d), some (stV cur), some (.ref l), y3, y4] ∧ st = pre ++ rest ∧ Same H Hc ∧ Hc l = some (.lst (as.map V.ref)) ∧ StL K Hc as pre ∧ (match cur with | none => rest = [] | some v => Tr.Way F v rest),
      ⟨_, some e, [], st, [], none, none, rfl, rfl, rfl, s0, upd_same, ⟨rfl, fun i a x h => by simp at h⟩, hw⟩, ?_⟩
    rintro m σ Hc ⟨cur, pre, rest, as, y3, y4, rfl, rfl, est, sc, el, hS, hcur⟩
    cases cur with
    | none =>
      have hcur : rest = [] := hcur
      subst hcur
      refine ⟨_, rfl, _, rfl, ?_⟩
      refine iteF ?_
      rw [List.append_nil] at est
      subst est
      exact ⟨_, rfl, q Hc l as sc nl el hS⟩
    | some v =>
      refine ⟨_, rfl, _, rfl, ?_⟩
      refine iteT ?_
      have hcur : Tr.Way F v rest := hcur
      obtain ⟨Ld, hR, eF, hT⟩ := hd
      have key : ∃ (c k r : Int) (s : Option Int) (rest' : List Tr.Step), Tr.gv F v = some (c, k, r, s) ∧ rest = (r, s, v) :: rest' ∧ (match s with | none => rest' = [] | some a => Tr.Way F a rest') := by
        cases hcur with
        | one e0 => exact ⟨_, _, _, none, [], e0, rfl, rfl⟩
        | more e0 g0 => exact ⟨_, _, _, some _, _, e0, rfl, g0⟩
      obtain ⟨c0, k0, r0, s0', rest', e0, rfl, hnext⟩ := key
      have e0' := e0
      rw [eF, gv_map] at e0'
      obtain ⟨⟨ba, lb⟩, e1, e2⟩ := Option.map_eq_some_iff.mp e0'
      have e2 : lb = (c0, k0, r0, s0') := e2
      subst e2
      have ht := (TupK.of sc).sq (hT v _ e1)
      have hl1 : st.length = pre.length + (rest'.length + 1) := by rw [est, List.length_append, List.length_cons]
      refine ⟨fun σ' H' => ∃ (cur : Option Int) (pre2 : List Tr.Step) (as : List Addr) (y3 y4 : Option V), σ' = [some (.ref d), some (stV cur), some (.ref l), y3, y4] ∧ st = pre2 ++ rest' ∧ Same H H' ∧ H' l = some (.lst (as.map V.ref)) ∧ StL K H' as pre2 ∧ (match cur with | none => rest' = [] | some v => Tr.Way F v rest'),
        fun σ' H' ⟨cur, pre2, as, y3, y4, e1, e2, e3, e4, e5, e6⟩ => ⟨rest'.length, by simp, cur, pre2, rest', as, y3, y4, rfl, e1, e2, e3, e4, e5, e6⟩, ?_⟩
      refine ⟨.ref d, rfl, .int v, rfl, d, _, rfl, DGet.dkW (fun x => V.ref x.1) (rdS sc hR) e1, ?_⟩
      refine ⟨2, rfl, sl_drop2 ht fun H2 b s2 hb => ?_⟩
      have hb : SqT K H2 b [.int r0, stV s0'] := hb
      refine ⟨b, _, rfl, hb, rfl, _, _, rfl, _, _, rfl, rfl, ?_⟩
      refine ⟨.ref l, rfl, .inl ⟨rfl, _, SqL.of (s2 _ _ el)⟩, .int r0, rfl, stV s0', rfl, .int v, rfl, (by show 3 ≤ sizeLine; decide), fun T nT => ?_⟩
      have s3 := s2.trans (sameNew (o := .tup [.int r0, stV s0', .int v]) nT)
      have nTl : l ≠ T := ne_of_none (s2 _ _ el) nT
      refine ⟨l, _, _, rfl, rfl, s3 _ _ el, by rw [List.length_map, hS.1]; exact small (by omega), stV s0', rfl, ?_⟩
      have nl2 : H l = none := nl
      have sH : Same H (upd (upd H2 T (.tup [.int r0, stV s0', .int v])) l (.lst (as.map V.ref ++ [V.ref T]))) := fun b2 o eb => by
        rw [upd_ne (ne_of_none eb nl)]
        exact s3 _ _ (sc _ _ eb)
      refine ⟨s0', pre ++ [(r0, s0', v)], as ++ [T], _, _, rfl, by rw [est, List.append_assoc]; rfl, sH, by rw [upd_same, List.map_append]; rfl, ⟨by rw [List.length_append, List.length_append, hS.1]; rfl, fun i a x e3 e4 => ?_⟩, by
        cases s0' with
        | none => exact hnext
        | some a => exact hnext⟩
      have tk : TupK (upd H2 T (.tup [.int r0, stV s0', .int v])) (upd (upd H2 T (.tup [.int r0, stV s0', .int v])) l (.lst (as.map V.ref ++ [V.ref T]))) := .put (s3 _ _ el)
      rw [List.getElem?_append] at e3 e4
      by_cases hi : i < as.length
      · rw [if_pos hi] at e3
        rw [if_pos (by rw [← hS.1]; exact hi)] at e4
        exact tk.sq ((TupK.of s3).sq (hS.2 i a x e3 e4))
      · rw [if_neg hi] at e3
        rw [if_neg (by rw [← hS.1]; exact hi)] at e4
        have hz : i - as.length = 0 := by
          have := (List.getElem?_eq_some_iff.mp e3).1
          simp only [List.length_singleton] at this
          omega
        rw [hz] at e3
        rw [← hS.1, hz] at e4
        have e3 : T = a := by simpa using e3
        have e4 : (r0, s0', v) = x := by simpa using e4
        subst e3 e4
        exact tk.sq (SqT.of upd_same)
end
end Pv

namespace Pv
open PySem PySem.Spec PyProof.Rows L2
section
variable {P : Program} {w : World} {K : PySem.W.Frag} {mg : Str → Option Value} {base : Heap}
set_option maxHeartbeats 8000000 in
theorem ok_TM {f : Addr} {fd : FuncData} {cT : Addr} (T : TTx K mg cT) (F : Fun K "cheapest_moves" "Transport.cheapest_moves" sTM f fd)
    (m_enumerate : mg "enumerate" = none) :
    FnOk P w K mg base CX0 1 f fd ["self", "start"] (spTM K cT) := by
  refine F.ok scTM (fun vs H Q E h => ?_) (fun cdv A outer s H vs Q E hr h => ?_)
  · obtain ⟨x, r, c, p, cd, pd, t, a, rfl, _⟩ := h; rfl
  · obtain ⟨x, r, c, p, cd, pd, t, a, rfl, hT, W, hrl, hpl, q⟩ := h
    have hu64 : (A.deeper (envOfC "Transport.cheapest_moves" (defScope sTM) s.heap.objs.size f cdv)).units + 64 < cLine := by have := hr.un; omega
    refine ⟨_, pss_cons (ps_set (i := 2) scTM.nd rfl (.inl rfl) (pe_dnewK))
      (pss_cons (ps_for PassesOwn.never rfl (pi_enum (by rfl) m_enumerate (pa_cons (pe_fld (pv 0) rfl) pa_nil)) (pg_tup rfl (pgs_cons (pg_name (i := 3) scTM.nd rfl (.inl rfl)) (pgs_cons (pg_name (i := 4) scTM.nd rfl (.inl rfl)) pgs_nil)))
        (pss_cons (ps_if (pt_cmpR op_eq (pe_dget2 (Nat.lt_of_le_of_lt (Nat.add_le_add_left (by decide) _) hu64) (pv 4) (pv 1) (pe_int) ⟨rfl, rfl, rfl, rfl⟩) (pe_int) (nomark _))
          (pss_one (ps_continue)) pss_nil)
        (pss_cons (ps_set (i := 5) scTM.nd rfl (.inl rfl) (pe_ix ix_list (pe_fld (pv 0) rfl) (pv 3) (fun _ _ => rfl)))
        (pss_one (ps_lock (ps_for PassesOwn.never rfl (pi_keys (pv 5)) (pg_name (i := 6) scTM.nd rfl (.inl rfl))
          (pss_cons (ps_set (i := 7) scTM.nd rfl (.inl rfl) (pe_op op_sub (pe_dget (Nat.lt_of_le_of_lt (Nat.add_le_add_left (by decide) _) hu64) (pv 5) (pv 6) (fun _ _ => rfl)) (pe_dget (Nat.lt_of_le_of_lt (Nat.add_le_add_left (by decide) _) hu64) (pv 5) (pv 1) (fun _ _ => rfl))))
          (pss_one (ps_if (PW.pt (pw_and (pt_cmpR op_ne (pv 6) (pv 1) (nomark _)) (pw_and1 (PW.pt (pw_or (pt_cmp (pc_dnotin (Nat.lt_of_le_of_lt (Nat.add_le_add_left (by decide) _) hu64) (pv 6) (pv 2))) (pw_or1 (pt_cmpR op_lt (pv 7) (pe_ix ix_tup (pe_dget (Nat.lt_of_le_of_lt (Nat.add_le_add_left (by decide) _) hu64) (pv 2) (pv 6) (fun _ _ => rfl)) (pe_int) (fun _ _ => rfl)) (nomark _))))))))
            (pss_one (ps_dput (Nat.lt_of_le_of_lt (Nat.add_le_add_left (by decide) _) hu64) (pv 2) (pv 6) (pe_tup (pa_cons (pv 7) (pa_cons (pv 3) pa_nil))) rfl)) pss_nil)))))))))
      (pss_one (ps_ret (pv 2)))), ?_⟩
    obtain ⟨dx, ob⟩ := hT.ob
    refine fun d nd => ?_
    have s0 := sameNew (o := .dK []) nd
    refine ⟨.ref x, rfl, x, cT, dx, _, _, rfl, s0 _ _ ob, T.cl, T.nP, fT_plan _ _ _, p, _, rfl, SqL.of (s0 _ _ hT.pl), for_it (walk_enum (K := K) (a := p) (xs := pd.map V.ref))
      (fun i σ Hc => ∃ (y3 y4 y5 y6 y7 : Option V), σ = [some (.ref x), some (.int a), some (.ref d), y3, y4, y5, y6, y7] ∧ Same H Hc ∧ DTup K Hc (Is Hc) mvV d (Tr.mvFrom a 0 (t.plan.take i) (t.costs.take i) []) ∧ (Tr.ks (Tr.mvFrom a 0 (t.plan.take i) (t.costs.take i) [])).Nodup ∧ ∀ k ∈ Tr.ks (Tr.mvFrom a 0 (t.plan.take i) (t.costs.take i) []), 0 ≤ k ∧ k < t.room.length)
      ⟨none, none, none, none, none, rfl, s0, ⟨[], by show upd H d _ d = _; rw [upd_same]; rfl, rfl, fun k x e => by cases e⟩, List.nodup_nil, fun k h => by cases h⟩ (fun i σ Hc _ h => by obtain ⟨_, _, _, _, _, _, s, _⟩ := h; exact SqL.of (s _ _ hT.pl)) ?_ ?_⟩
    · rintro i y σ Ha Hb hi ⟨y3, y4, y5, y6, y7, rfl, sa, hM, hnd, hrg⟩ ⟨Tp, u, v, rfl, nTp, rfl, hu, hv⟩
      have hu : V.int (i : Nat) = u := Option.some.inj hu
      subst hu
      have hv : (pd.map V.ref)[i]? = some v := hv
      rw [List.getElem?_map] at hv
      obtain ⟨pa, hpa, rfl⟩ := Option.map_eq_some_iff.mp hv
      have hip : i < t.plan.length := by rw [← hT.lp]; exact (List.getElem?_eq_some_iff.mp hpa).1
      have hic : i < t.costs.length := by rw [← W.len]; exact hip
      have eP : t.plan[i]? = some t.plan[i] := List.getElem?_eq_getElem hip
      have eQ : t.costs[i]? = some t.costs[i] := List.getElem?_eq_getElem hic
      generalize hPg : t.plan[i] = Pi at eP
      generalize hQg : t.costs[i] = Qi at eQ
      have hPd := hT.pds i pa Pi hpa eP
      obtain ⟨ca, hca, hCd⟩ := hT.cd eQ
      have hk := W.key i Pi Qi eP eQ
      have hnQ := W.nd Qi (List.mem_of_getElem? eQ)
      have hrQ := W.rng Qi (List.mem_of_getElem? eQ)
      have eM : Tr.mvFrom a 0 (t.plan.take (i + 1)) (t.costs.take (i + 1)) [] = if Tr.num Pi a = 0 then Tr.mvFrom a 0 (t.plan.take i) (t.costs.take i) [] else Tr.mvRow Qi a i (Tr.mvFrom a 0 (t.plan.take i) (t.costs.take i) []) := by
        have l1 : (t.plan.take i).length = i := by rw [List.length_take]; omega
        rw [take_snoc eP, take_snoc eQ, mvFrom_snoc (by rw [List.length_take, List.length_take, W.len]), l1, Nat.zero_add]
      generalize Tr.mvFrom a 0 (t.plan.take i) (t.costs.take i) [] = M at hM hnd hrg eM
      have sT := sameNew (o := .tup [.int (i : Nat), .ref pa]) nTp
      have sb := sa.trans sT
      obtain ⟨Lm, hR, eL, hLt⟩ := hM
      refine ⟨Tp, _, rfl, SqT.of upd_same, rfl, _, _, rfl, _, _, rfl, rfl, ?_⟩
      refine ⟨.ref pa, rfl, pa, rfl, .inl ⟨_, .inl (sb _ _ hPd)⟩, .int a, rfl, _, DGet.dkO V.int (.inl (sb _ _ hPd)) a, ?_⟩
      rw [num_getD]
      refine ⟨rfl, _, rfl, ite2 (fun h0 => ?_) (fun h0 => ?_)⟩
      · have h0 : Tr.num Pi a = 0 := V.int.inj (of_decide_eq_true h0)
        rw [if_pos h0] at eM
        exact ⟨_, _, _, _, _, rfl, sb, by rw [eM]; exact ⟨Lm, sT _ _ hR, eL, fun k x e => (TupK.of sT).sq (hLt k x e)⟩, by rw [eM]; exact hnd, by rw [eM]; exact hrg⟩
      · have h0 : Tr.num Pi a ≠ 0 := fun z => h0 (decide_eq_true (by rw [z]))
        rw [if_neg h0] at eM
        have sB := sb
        have hRb : upd Ha Tp (.tup [.int (i : Nat), .ref pa]) d = some (.dK (dkW (fun x : Addr × (Int × Int) => V.ref x.1) Lm)) := sT _ _ hR
        have hLb : ∀ k x, Tr.gv Lm k = some x → SqT K (upd Ha Tp (.tup [.int (i : Nat), .ref pa])) x.1 (mvV x.2) := fun k x e => (TupK.of sT).sq (hLt k x e)
        generalize upd Ha Tp (.tup [.int (i : Nat), .ref pa]) = Hb at sB hRb hLb ⊢
        refine ⟨.ref x, rfl, x, cT, dx, _, _, rfl, sB _ _ ob, T.cl, T.nC, fT_costs _ _ _, .int (i : Nat), rfl, c, _, _, .ref ca, rfl, rfl, SqL.of (sB _ _ hT.cs), atI_nat (j := i) (by rw [List.getElem?_map, hca]; rfl), ?_⟩
        have hCb := sB _ _ hCd
        have nca : ca ≠ d := ne_of_none hCd nd
        have gQ : ∀ {k}, k ∈ Tr.ks Qi → Tr.gv Qi k = some (Tr.num Qi k) := fun {k} hk => by
          obtain ⟨v, e⟩ := Tr.gv_of_ks hk
          rw [num_gv e]; exact e
        have ga := gQ (hk ▸ Tr.num_ks h0)
        refine ⟨ca, _, hCb, trivial, fun od => ⟨.ref ca, rfl, ca, od, rfl, .inl ⟨_, upd_same, for_it walk_keys
          (fun j σ Hc => ∃ (y6 y7 : Option V) (Lj : List (Int × (Addr × Int × Int))), σ = [some (.ref x), some (.int a), some (.ref d), some (.int (i : Nat)), some (.ref pa), some (.ref ca), y6, y7] ∧ (∀ b o, H b = some o → b ≠ ca → Hc b = some o) ∧ Hc ca = some (.frz od (.dK (dk Qi))) ∧ Hc d = some (.dK (dkW (fun x : Addr × (Int × Int) => V.ref x.1) Lj)) ∧ ((Tr.ks Qi).take j).foldl (Tr.mvOne Qi a i) M = Lj.map (fun e => (e.1, e.2.2)) ∧ (∀ k x, Tr.gv Lj k = some x → SqT K Hc x.1 (mvV x.2)) ∧ (Tr.ks Lj).Nodup ∧ ∀ k ∈ Tr.ks Lj, 0 ≤ k ∧ k < t.room.length)
          ⟨_, _, Lm, rfl, fun b o e nb => by rw [upd_ne nb]; exact sB _ _ e, upd_same, by rw [upd_ne nca.symm]; exact hRb, by rw [List.take_zero]; exact eL, fun k x e => (TupK.dK (.inl hCb)).sq (hLb k x e), by rw [← ks_map (fun x : Addr × (Int × Int) => x.2), ← eL]; exact hnd, by rw [← ks_map (fun x : Addr × (Int × Int) => x.2), ← eL]; exact hrg⟩ (fun j σ Hc _ h => by obtain ⟨_, _, _, _, _, e, _⟩ := h; exact e) ?_ ?_⟩⟩⟩
        · rintro j y σ Hz Hx hj ⟨y6, y7, Lj, rfl, fr, eC, eD, eF, hLj, hnj, hrj⟩ ⟨rfl, k, v, hkv, rfl⟩
          rw [dkW_len] at hj
          rw [dkW_get] at hkv
          obtain ⟨en, hen, ekv⟩ := Option.map_eq_some_iff.mp hkv
          cases ekv
          have hjk : (Tr.ks Qi)[j]? = some en.1 := by show (Qi.map _)[j]? = _; rw [List.getElem?_map, hen]; rfl
          have hkm : en.1 ∈ Tr.ks Qi := List.mem_of_getElem? hjk
          have hmy := hk ▸ hkm
          have eN : ((Tr.ks Qi).take (j + 1)).foldl (Tr.mvOne Qi a i) M = Tr.mvOne Qi a i (Lj.map fun e => (e.1, e.2.2)) en.1 := by rw [take_snoc hjk, List.foldl_append, eF]; rfl
          refine ⟨.ref ca, rfl, .int en.1, rfl, ca, _, rfl, DGet.dkW V.int (.inr ⟨_, eC⟩) (gQ hkm), .ref ca, rfl, .int a, rfl, ca, _, rfl, DGet.dkW V.int (.inr ⟨_, eC⟩) ga, _, _, rfl, rfl, ?_⟩
          refine ⟨.int en.1, rfl, .int a, rfl, rfl, _, rfl, ?_⟩
          have stay : Tr.mvOne Qi a i (Lj.map fun e => (e.1, e.2.2)) en.1 = (Lj.map fun e => (e.1, e.2.2)) → ∀ z6 z7 : Option V, ∃ (y6 y7 : Option V) (Lj' : List (Int × (Addr × Int × Int))), [some (V.ref x), some (.int a), some (.ref d), some (.int (i : Nat)), some (.ref pa), some (.ref ca), z6, z7] = [some (V.ref x), some (.int a), some (.ref d), some (.int (i : Nat)), some (.ref pa), some (.ref ca), y6, y7] ∧ (∀ b o, H b = some o → b ≠ ca → Hx b = some o) ∧ Hx ca = some (.frz od (.dK (dk Qi))) ∧ Hx d = some (.dK (dkW (fun x : Addr × (Int × Int) => V.ref x.1) Lj')) ∧ ((Tr.ks Qi).take (j + 1)).foldl (Tr.mvOne Qi a i) M = Lj'.map (fun e => (e.1, e.2.2)) ∧ (∀ k x, Tr.gv Lj' k = some x → SqT K Hx x.1 (mvV x.2)) ∧ (Tr.ks Lj').Nodup ∧ ∀ k ∈ Tr.ks Lj', 0 ≤ k ∧ k < t.room.length :=
            fun e z6 z7 => ⟨z6, z7, Lj, rfl, fr, eC, eD, eN.trans e, hLj, hnj, hrj⟩
          have szL : Lj.length ≤ 1000 := by
            have := Tr.nodup_range (m := t.room.length) hnj hrj
            simp only [Tr.ks, List.length_map] at this
            omega
          have put : Tr.mvOne Qi a i (Lj.map fun e => (e.1, e.2.2)) en.1 = Tr.pt (Lj.map fun e => (e.1, e.2.2)) en.1 (Tr.num Qi en.1 - Tr.num Qi a, (i : Int)) → ∀ z6 z7 : Option V, ∀ T, Hx T = none → ∃ (y6 y7 : Option V) (Lj' : List (Int × (Addr × Int × Int))), [some (V.ref x), some (.int a), some (.ref d), some (.int (i : Nat)), some (.ref pa), some (.ref ca), z6, z7] = [some (V.ref x), some (.int a), some (.ref d), some (.int (i : Nat)), some (.ref pa), some (.ref ca), y6, y7] ∧ (∀ b o, H b = some o → b ≠ ca → upd (upd Hx T (.tup [.int (Tr.num Qi en.1 - Tr.num Qi a), .int (i : Nat)])) d (.dK (dkW (fun x : Addr × (Int × Int) => V.ref x.1) (Tr.pt Lj en.1 (T, Tr.num Qi en.1 - Tr.num Qi a, (i : Int))))) b = some o) ∧ upd (upd Hx T (.tup [.int (Tr.num Qi en.1 - Tr.num Qi a), .int (i : Nat)])) d (.dK (dkW (fun x : Addr × (Int × Int) => V.ref x.1) (Tr.pt Lj en.1 (T, Tr.num Qi en.1 - Tr.num Qi a, (i : Int))))) ca = some (.frz od (.dK (dk Qi))) ∧ upd (upd Hx T (.tup [.int (Tr.num Qi en.1 - Tr.num Qi a), .int (i : Nat)])) d (.dK (dkW (fun x : Addr × (Int × Int) => V.ref x.1) (Tr.pt Lj en.1 (T, Tr.num Qi en.1 - Tr.num Qi a, (i : Int))))) d = some (.dK (dkW (fun x : Addr × (Int × Int) => V.ref x.1) Lj')) ∧ ((Tr.ks Qi).take (j + 1)).foldl (Tr.mvOne Qi a i) M = Lj'.map (fun e => (e.1, e.2.2)) ∧ (∀ k x, Tr.gv Lj' k = some x → SqT K (upd (upd Hx T (.tup [.int (Tr.num Qi en.1 - Tr.num Qi a), .int (i : Nat)])) d (.dK (dkW (fun x : Addr × (Int × Int) => V.ref x.1) (Tr.pt Lj en.1 (T, Tr.num Qi en.1 - Tr.num Qi a, (i : Int)))))) x.1 (mvV x.2)) ∧ (Tr.ks Lj').Nodup ∧ ∀ k ∈ Tr.ks Lj', 0 ≤ k ∧ k < t.room.length := fun e z6 z7 T nT => by
            have sT := sameNew (o := .tup [.int (Tr.num Qi en.1 - Tr.num Qi a), .int (i : Nat)]) nT
            have nTd : d ≠ T := ne_of_none eD nT
            refine ⟨z6, z7, Tr.pt Lj en.1 (T, Tr.num Qi en.1 - Tr.num Qi a, (i : Int)), rfl, fun b o eb nb => ?_, ?_, upd_same, ?_, fun k y ek => ?_, Tr.nd_pt _ _ hnj, fun k hk' => ?_⟩
            · rw [upd_ne (ne_of_none eb nd)]
              exact sT _ _ (fr b o eb nb)
            · rw [upd_ne nca]; exact sT _ _ eC
            · rw [eN, e]; exact (pt_map (fun x : Addr × (Int × Int) => x.2) Lj en.1 (T, Tr.num Qi en.1 - Tr.num Qi a, (i : Int))).symm
            · refine (TupK.dK (.inl (sT _ _ eD))).sq ?_
              rw [Tr.gv_pt] at ek
              by_cases z : en.1 = k
              · rw [if_pos z] at ek
                cases ek
                exact SqT.of upd_same
              · rw [if_neg z] at ek
                exact (TupK.of sT).sq (hLj k y ek)
            · rw [Tr.ks_pt] at hk'
              split at hk'
              · exact hrj k hk'
              · rcases List.mem_append.mp hk' with z | z
                · exact hrj k z
                · have : k = en.1 := by simpa using z
                  rw [this]; exact hrQ _ hkm
          have cut := gv_map (fun x : Addr × (Int × Int) => x.2) Lj en.1
          have two : (2 : Nat) ≤ sizeLine := by decide
          refine ite2 (fun h1 => ?_) (fun h1 => ?_)
          · have h1 : en.1 ≠ a := fun z => by rw [z] at h1; simp at h1
            cases eg : Tr.gv Lj en.1 with
            | none =>
              refine ⟨.int en.1, rfl, .ref d, rfl, d, _, rfl, DGet.dkO (fun x : Addr × (Int × Int) => V.ref x.1) (.inl eD) en.1, _, rfl, ?_⟩
              rw [eg]
              refine iteT (iteT ?_)
              refine ⟨.int (Tr.num Qi en.1 - Tr.num Qi a), rfl, .int (i : Nat), rfl, two, fun T nT => ⟨.ref d, rfl, .int en.1, rfl, d, _, rfl, DPut.dkW (fun x : Addr × (Int × Int) => V.ref x.1) hnj (sameNew nT _ _ eD) (small (by omega)) en.1 (T, Tr.num Qi en.1 - Tr.num Qi a, (i : Int)), put ?_ _ _ T nT⟩⟩
              unfold Tr.mvOne Tr.cheaper
              rw [cut, eg]
              exact if_pos ⟨h1, rfl⟩
            | some y =>
              refine ⟨.int en.1, rfl, .ref d, rfl, d, _, rfl, DGet.dkO (fun x : Addr × (Int × Int) => V.ref x.1) (.inl eD) en.1, _, rfl, ?_⟩
              rw [eg]
              refine iteF ?_
              refine ⟨.int (Tr.num Qi en.1 - Tr.num Qi a), rfl, .ref d, rfl, .int en.1, rfl, d, _, rfl, DGet.dkW (fun x : Addr × (Int × Int) => V.ref x.1) (.inl eD) eg, y.1, _, 0, .int y.2.1, rfl, rfl, hLj _ _ eg, atI_nat (j := 0) rfl, _, _, rfl, rfl, _, rfl, ite2 (fun h2 => ?_) (fun h2 => ?_)⟩
              · refine ⟨.int (Tr.num Qi en.1 - Tr.num Qi a), rfl, .int (i : Nat), rfl, two, fun T nT => ⟨.ref d, rfl, .int en.1, rfl, d, _, rfl, DPut.dkW (fun x : Addr × (Int × Int) => V.ref x.1) hnj (sameNew nT _ _ eD) (small (by omega)) en.1 (T, Tr.num Qi en.1 - Tr.num Qi a, (i : Int)), put ?_ _ _ T nT⟩⟩
                unfold Tr.mvOne Tr.cheaper
                rw [cut, eg]
                exact if_pos ⟨h1, h2⟩
              · refine stay ?_ _ _
                unfold Tr.mvOne Tr.cheaper
                rw [cut, eg]
                exact if_neg (fun z => h2 z.2)
          · have h1 : en.1 = a := by
              by_cases z : en.1 = a
              · exact z
              · exact absurd (by simpa using z) h1
            refine iteF ?_
            refine stay ?_ _ _
            unfold Tr.mvOne
            rw [if_neg (fun z => z.1 h1)]
        · rintro σ Hc ⟨y6, y7, Lj, rfl, fr, eC, eD, eF, hLj, hnj, hrj⟩
          have el : (Tr.ks Qi).take (dk Qi).length = Tr.ks Qi := List.take_of_length_le (by rw [dkW_len]; show (Qi.map _).length ≤ _; rw [List.length_map]; exact Nat.le_refl _)
          rw [el] at eF
          have eM : Tr.mvFrom a 0 (t.plan.take (i + 1)) (t.costs.take (i + 1)) [] = Lj.map (fun e => (e.1, e.2.2)) := eM.trans eF
          have sN : Same H (upd Hc ca (.dK (dk Qi))) := fun b o e => by
            by_cases z : b = ca
            · subst z; rw [upd_same, ← e, hCd]
            · rw [upd_ne z]; exact fr b o e z
          refine ⟨eC, _, _, _, _, _, rfl, sN, ?_, ?_, ?_⟩
          · rw [eM]
            exact ⟨Lj, by show upd Hc ca _ d = _; rw [upd_ne nca.symm]; exact eD, rfl, fun k x e => (TupK.dK (.inr ⟨_, eC⟩)).sq (hLj k x e)⟩
          · rw [eM, ks_map]; exact hnj
          · rw [eM, ks_map]; exact hrj

    · rintro σ Hc ⟨y3, y4, y5, y6, y7, rfl, sc, hM, hnd, hrg⟩
      have e1 : t.plan.take (pd.map V.ref).length = t.plan := List.take_of_length_le (by rw [List.length_map, hT.lp]; exact Nat.le_refl _)
      have e2 : t.costs.take (pd.map V.ref).length = t.costs := List.take_of_length_le (by rw [List.length_map, hT.lp, W.len]; exact Nat.le_refl _)
      rw [e1, e2] at hM
      exact ⟨_, rfl, q Hc d sc nd hM⟩
end
end Pv

set_option maxHeartbeats 1000000
namespace Pv
open PySem PySem.Spec PyProof.Rows L2
section
variable {X : Cx}
/-! a dict comprehension stored in a local at once -/
theorem swD {ke ve : Expr} {qs : List Comprehension} {csc : Scope} {cp np : Pos} {nm : Str} {ln : Nat} {ev : Env} (h1 : ev.scope.kind = .function) (h2 : ev.scope.names.lookup nm = some .local) (h3 : (np.line == cp.line) = true)
    (h4 : (csc.names.any fun (n, k) => n == nm && (k == .local || k == .cell)) = false) : swapsWith (.DictComp ke ve qs csc cp) (some (.Name nm np)) ln ev = pure true := by
  have q1 : ev.kindOf nm = some .local := h2
  have q2 : ev.blockKind = .function := by unfold Env.blockKind; rw [h1]; rfl
  unfold swapsWith
  simp only [q2, q1, h4, Expr.pos, h3]
  rfl
theorem ps_setDc {i : Nat} {nm : Str} {np : Pos} {ke ve tgt src : Expr} {csc : Scope} {own : List (Str × Nat)} {cp sp : Pos} {wi : TI} {g : TG} {tk tv : TE} (hc : X.calm = true) (hN : X.N.Nodup) (hy : X.N[i]? = some nm) (hl : X.env.scope.names.lookup nm = some .local)
    (hsw : swapsWith (.DictComp ke ve [⟨tgt, src, [], 0⟩] csc cp) (some (.Name nm np)) sp.line X.env = pure true) (hi : PI X tgt src wi) (ok : BlkOk X.N X.env.scope csc own)
    (hg : ∀ (s : Shared) (H : Hp) (C : Addr) (cl : List (Str × Addr)) (fp : List Addr), PG (X.blk s H csc (compEnvC csc cl C X.env) fp) tgt g)
    (hk : ∀ (s : Shared) (H : Hp) (C : Addr) (cl : List (Str × Addr)) (fp : List Addr), PE (X.blk s H csc (compEnvC csc cl C X.env) fp) ke tk)
    (hv : ∀ (s : Shared) (H : Hp) (C : Addr) (cl : List (Str × Addr)) (fp : List Addr), PE (X.blk s H csc (compEnvC csc cl C X.env) fp) ve tv) (hf : ∀ x, foldedSetIterable src X.env x = pure x := by intro _; rfl) :
    PS X (.Assign [.Name nm np] (.DictComp ke ve [⟨tgt, src, [], 0⟩] csc cp) sp) (tAsg (tDc wi g tYes tk tv (own.map (·.2))) (gName i)) := by
  refine ⟨fun pn s σ H D I hq => ?_⟩
  have hq : tDc wi g tYes tk tv (own.map (·.2)) σ H (fun z H1 => gName i z σ H1 D.nx) := hq
  rw [exec_Assign_Name_used _ _ _ _ hsw]
  refine wpAny_bind (wpAny_standAt (wpAny_bind ?_))
  refine wpAny_bind (thn (dc_core (pos' := firstIterPos [⟨tgt, src, [], 0⟩] cp) (use := some (assign (.Name nm np) X.env)) (Qf := fun _ s' => L2.SP X pn D .next s') hc hN I hi ok hg (fun _ _ _ _ _ => pts_nil) hk hv hf hq fun E C s1 m H1 I1 q1 ns1 fo => ?_) fun _ s' z => wpAny_pure (wpAny_pure z))
  show wpAny _ _ (assign (.Name nm np) X.env (.ref E)) _ _ _
  refine wpAny_assign_Name (store_ok2 (v := V.ref E) I1 hN hy (.inl hl) rfl (fun s2 I2 ⟨a, sb, ha⟩ => ?_) (.inr hl))
  obtain ⟨g0, g1, g2, g3, g4, g5⟩ := fo
  have ne : C ≠ a := by
    rcases ha with z | z
    · exact fun e => g1 (e.trans z)
    · exact fun e => g4 nm a z e.symm
  exact ⟨m, ns1.sameBut sb ne, fun h3 sb3 => ⟨_, H1, I2.turned (t' := s2.toks) (fun b o hb e => (sb3.2 b hb).trans e) g0 g1 g3 g4 g5, q1⟩⟩
end
end Pv

namespace Pv
open PySem PySem.Spec PyProof.Rows L2
abbrev sTS : Stmt := inCls (topS 18) 2
theorem scTS : FnScope ["self", "last", "found", "waiting", "start", "end", "cost", "row", "offer", "column"] ["self"] (defScope sTS) := ⟨rfl, rfl, rfl, by decide +kernel, rfl, by decide +kernel, by decide +kernel⟩
section
variable {P : Program} {w : World} {K : PySem.W.Frag} {mg : Str → Option Value} {base : Heap}
set_option maxHeartbeats 8000000 in
theorem ok_TS {f fTM : Addr} {fd fdTM : FuncData} {cT : Addr} (T : TTx K mg cT) (F : Fun K "search_columns" "Transport.search_columns" sTS f fd)
    (FTM : Fun K "cheapest_moves" "Transport.cheapest_moves" sTM fTM fdTM) (bTM : Binds K fdTM ["self", "start"] []) (mTM : Meth K cT "cheapest_moves" fTM) (GTM : FnOk P w K mg base CX0 1 fTM fdTM ["self", "start"] (spTM K cT))
    (m_len : mg "len" = none) (m_list : mg "list" = none) :
    FnOk P w K mg base CX0 2 f fd ["self"] (spTS K cT) := by
  refine F.ok scTS (fun vs H Q E h => ?_) (fun cdv A outer s H vs Q E hr h => ?_)
  · obtain ⟨x, r, c, p, cd, pd, t, Lr, ℓ, pt, rfl, _⟩ := h; rfl
  · obtain ⟨x, r, c, p, cd, pd, t, Lr, ℓ, pt, rfl, hT, W, hrl, hpl, hL, hℓ, hp, q⟩ := h
    have hu64 : (A.deeper (envOfC "Transport.search_columns" (defScope sTS) s.heap.objs.size f cdv)).units + 64 < cLine := by have := hr.un; omega
    have hu0 : (A.deeper (envOfC "Transport.search_columns" (defScope sTS) s.heap.objs.size f cdv)).units < cLine := by have := hr.un; omega
    refine ⟨_, pss_cons (ps_set (i := 1) scTS.nd rfl (.inr rfl) (pe_op op_sub (pe_callB call_lenQ (by rfl) m_len PySem.boot_len (pa_cons (pe_fld (pv 0) rfl) pa_nil)) (pe_int)))
      (pss_cons (ps_lock (ps_setDc (i := 2) (own := [("column", 9), ("cost", 6)]) (g := gTup K 2 (gCons (gName 9) (gCons (gName 6) gNil))) (tk := tVar 9) (tv := tTup (tCons (tVar 6) (tCons (tC (.int 1)) (tCons (tVar 1) (tCons (tC .non) tNil))))) rfl scTS.nd rfl rfl (swD rfl rfl rfl (by decide +kernel)) (pi_items (pe_ix ix_list (pe_fld (pv 0) rfl) (pv 1) (fun _ _ => rfl))) (blkOk_by (N := ["self", "last", "found", "waiting", "start", "end", "cost", "row", "offer", "column"]) (sc := defScope sTS) (by decide +kernel)) (fun _ _ _ _ _ => pg_tup rfl (pgs_cons (pg_name (i := 9) scTS.nd rfl (.inl rfl)) (pgs_cons (pg_name (i := 6) scTS.nd rfl (.inl rfl)) pgs_nil))) (fun _ _ _ _ _ => pv 9) (fun _ _ _ _ _ => pe_tup (pa_cons (pv 6) (pa_cons (pe_int) (pa_cons (pv 1) (pa_cons (pe_non) pa_nil)))))))
      (pss_cons (ps_set (i := 3) scTS.nd rfl (.inl rfl) (pe_callTy (call_listD rfl) (by rfl) m_list (by decide +kernel) (pa_cons (pv 2) pa_nil)))
      (pss_cons (ps_while PassesOwn.never (pt_cmpR op_gt (pe_callB call_lenQ (by rfl) m_len PySem.boot_len (pa_cons (pv 3) pa_nil)) (pe_int) (nomark _))
        (pss_cons (ps_set (i := 4) scTS.nd rfl (.inl rfl) (pe_bm PySem.F.plainAttrs_list PySem.F.slot_list_pop PySem.F.type_list_pop mt_popAt (pv 3) (pa_cons (pe_int) pa_nil)))
        (pss_cons (ps_if (pt_cmpR op_gt (pe_ix ix_list (pe_fld (pv 0) rfl) (pv 4) (fun _ _ => rfl)) (pe_int) (nomark _))
          (pss_one (ps_continue)) pss_nil)
        (pss_one (ps_for PassesOwn.never rfl (pi_items (pe_frz (pe_meth (pv 0) T.cl mTM GTM (hr.mono (by omega)) bTM .nil pass0 (pa_cons (pv 4) pa_nil)))) (pg_tup rfl (pgs_cons (pg_name (i := 5) scTS.nd rfl (.inl rfl)) (pgs_cons (pg_tup rfl (pgs_cons (pg_name (i := 6) scTS.nd rfl (.inl rfl)) (pgs_cons (pg_name (i := 7) scTS.nd rfl (.inl rfl)) pgs_nil))) pgs_nil)))
          (pss_cons (ps_set (i := 8) scTS.nd rfl (.inl rfl) (pe_tup (pa_cons (pe_op op_add (pe_ix ix_tup (pe_dget (Nat.lt_of_le_of_lt (Nat.add_le_add_left (by decide) _) hu64) (pv 2) (pv 4) (fun _ _ => rfl)) (pe_int) (fun _ _ => rfl)) (pv 6)) (pa_cons (pe_op op_add (pe_ix ix_tup (pe_dget (Nat.lt_of_le_of_lt (Nat.add_le_add_left (by decide) _) hu64) (pv 2) (pv 4) (fun _ _ => rfl)) (pe_int) (fun _ _ => rfl)) (pe_int)) (pa_cons (pv 7) (pa_cons (pv 4) pa_nil))))))
          (pss_one (ps_if (PW.pt (pw_or (pt_cmp (pc_dnotin (Nat.lt_of_le_of_lt (Nat.add_le_add_left (by decide) _) hu64) (pv 5) (pv 2))) (pw_or1 (pt_cmpR (op_ltT hu0) (pe_slice sl_tupA (pv 8) po_none (po_some (pe_int))) (pe_slice sl_tupA (pe_dget (Nat.lt_of_le_of_lt (Nat.add_le_add_left (by decide) _) hu64) (pv 2) (pv 5) (fun _ _ => rfl)) po_none (po_some (pe_int))) (nomark _)))))
            (pss_cons (ps_dput (Nat.lt_of_le_of_lt (Nat.add_le_add_left (by decide) _) hu64) (pv 2) (pv 5) (pv 8) rfl)
            (pss_one (ps_expr (pe_bm PySem.F.plainAttrs_list PySem.F.slot_list_append PySem.F.type_list_append mt_append (pv 3) (pa_cons (pv 5) pa_nil))))) pss_nil))))))))
      (pss_one (ps_ret (pv 2)))))), ?_⟩
    obtain ⟨dx, ob⟩ := hT.ob
    refine ⟨.ref x, rfl, x, cT, dx, _, _, rfl, ob, T.cl, T.nP, fT_plan _ _ _, p, _, rfl, .inl (SqL.of hT.pl), _, _, rfl, rfl, ?_⟩
    have eℓ : (((pd.map V.ref).length : Nat) : Int) - 1 = (ℓ : Int) := by rw [List.length_map, hT.lp, ← hℓ]; omega
    dsimp only
    rw [eℓ]
    obtain ⟨ca, hca, hCd⟩ := hT.cd hL
    obtain ⟨hnL, hrL⟩ := W.row hL
    have szL : Lr.length ≤ 7 := by
      have := Tr.nodup_range (m := t.room.length) hnL hrL
      simp only [Tr.ks, List.length_map] at this
      omega
    refine ⟨ca, _, hCd, trivial, fun od => ?_⟩
    have nxc : ∀ {b o}, H b = some o → (∀ kvs, o ≠ .dK kvs) → b ≠ ca := fun e ho z => by rw [z, hCd] at e; cases e; exact ho _ rfl
    have obL : upd H ca (.frz od (.dK (dk Lr))) x = some (.ins cT dx (fldsT r c p)) := by rw [upd_ne (nxc ob fun _ z => by cases z)]; exact ob
    have csL : upd H ca (.frz od (.dK (dk Lr))) c = some (.lst (cd.map V.ref)) := by rw [upd_ne (nxc hT.cs fun _ z => by cases z)]; exact hT.cs
    refine ⟨.ref x, rfl, x, cT, dx, _, _, rfl, obL, T.cl, T.nC, fT_costs _ _ _, .int (ℓ : Int), rfl, c, _, _, .ref ca, rfl, rfl, SqL.of csL, atI_nat (j := ℓ) (by rw [List.getElem?_map, hca]; rfl), ca, od, _, rfl, upd_same, fun D nD => ?_⟩
    have nD0 : H D = none := by
      by_cases z : D = ca
      · rw [z, upd_same] at nD; cases nD
      · rwa [upd_ne z] at nD
    have nDca : ca ≠ D := ne_of_none (by rw [upd_same]) nD
    have four : (4 : Nat) ≤ sizeLine := by decide
    refine dc_it walk_items (fun j Hc => ∃ Lj : List (Int × (Addr × Tr.Lb)), (∀ b o, H b = some o → b ≠ ca → Hc b = some o) ∧ Hc ca = some (.frz od (.dK (dk Lr))) ∧ Hc D = some (.dK (dkW (fun x : Addr × Tr.Lb => V.ref x.1) Lj)) ∧ (Tr.init Lr ℓ).found.take j = Lj.map (fun e => (e.1, e.2.2)) ∧ (∀ k x, Tr.gv Lj k = some x → SqT K Hc x.1 (lbV x.2)) ∧ Tr.ks Lj = (Tr.ks Lr).take j)
      ⟨[], fun b o e nb => by rw [upd_ne (ne_of_none e nD0), upd_ne nb]; exact e, by rw [upd_ne nDca, upd_same], by rw [upd_same]; rfl, rfl, (fun k x e => by cases e), rfl⟩ (fun j Hc _ h => by obtain ⟨_, _, e, _⟩ := h; exact e) ?_ ?_
    · rintro j y Ha Hb hj ⟨Lj, fr, eC, eD, eF, hLj, hks⟩ ⟨Tp, u, v, rfl, nTp, rfl, hu, hv⟩
      rw [dkW_len] at hj
      have eL : Lr[j]? = some Lr[j] := List.getElem?_eq_getElem hj
      generalize Lr[j] = en at eL
      have hu : ((dkW V.int Lr)[j]?).map (fun kv => kV kv.1) = some u := hu
      have hv : ((dkW V.int Lr)[j]?).map Prod.snd = some v := hv
      rw [dkW_get, eL] at hu hv
      have hu : V.int en.1 = u := Option.some.inj hu
      have hv : V.int en.2 = v := Option.some.inj hv
      subst hu hv
      have sT := sameNew (o := .tup [.int en.1, .int en.2]) nTp
      refine ⟨Tp, _, rfl, SqT.of upd_same, rfl, _, _, rfl, _, _, rfl, rfl, rfl, ?_⟩
      refine ⟨.int en.1, rfl, .int en.2, rfl, .int (ℓ : Int), rfl, four, fun T2 nT2 => ?_⟩
      have s2 := sT.trans (sameNew (o := .tup [.int en.2, .int 1, .int (ℓ : Int), .non]) nT2)
      have hjk : (Tr.ks Lr)[j]? = some en.1 := by show (Lr.map _)[j]? = _; rw [List.getElem?_map, eL]; rfl
      have hnew : ¬ en.1 ∈ Tr.ks Lj := fun hin => by
        rw [hks] at hin
        obtain ⟨i, hi⟩ := List.getElem?_of_mem hin
        rw [List.getElem?_take] at hi
        split at hi
        · rename_i hlt
          have := (List.getElem?_inj (List.getElem?_eq_some_iff.mp hi).1 hnL).mp (hi.trans hjk.symm)
          omega
        · cases hi
      have eK : Tr.ks (Tr.pt Lj en.1 (T2, (en.2, 1, (ℓ : Int), none))) = (Tr.ks Lr).take (j + 1) := by rw [Tr.ks_pt, if_neg hnew, hks, take_snoc hjk]
      have szJ : Lj.length ≤ 1000 := by
        have := congrArg List.length hks
        simp only [Tr.ks, List.length_map, List.length_take] at this
        omega
      refine ⟨_, Sum.inl en.1, rfl, s2 _ _ eD, by rw [dkW_len]; exact small (by omega), Tr.pt Lj en.1 (T2, (en.2, 1, (ℓ : Int), none)), fun b o e nb => ?_, ?_, ?_, ?_, fun k z ek => ?_, eK⟩
      · rw [upd_ne (ne_of_none e nD0)]; exact s2 _ _ (fr b o e nb)
      · rw [upd_ne nDca]; exact s2 _ _ eC
      · rw [upd_same, ← putK_dkW (fun x : Addr × Tr.Lb => V.ref x.1) (by rw [hks]; exact hnL.sublist (List.take_sublist _ _)) en.1 (T2, (en.2, 1, (ℓ : Int), none))]
      · have ei : (Tr.init Lr ℓ).found[j]? = some (en.1, (en.2, 1, (ℓ : Int), none)) := by show (Lr.map _)[j]? = _; rw [List.getElem?_map, eL]; rfl
        rw [take_snoc ei, eF, pt_new hnew, List.map_append]; rfl
      · refine (TupK.dK (.inl (s2 _ _ eD))).sq ?_
        rw [Tr.gv_pt] at ek
        by_cases hz : en.1 = k
        · rw [if_pos hz] at ek; cases ek; exact SqT.of upd_same
        · rw [if_neg hz] at ek; exact (TupK.of s2).sq (hLj k z ek)
    · rintro Hc ⟨Lj, fr, eC, eD, eF, hLj, hks⟩
      have lj : (dk Lr).length = Lr.length := dkW_len _ _
      rw [lj] at eF hks
      have e1 : (Tr.init Lr ℓ).found.take Lr.length = (Tr.init Lr ℓ).found := List.take_of_length_le (by show (Lr.map _).length ≤ _; rw [List.length_map]; exact Nat.le_refl _)
      have e2 : (Tr.ks Lr).take Lr.length = Tr.ks Lr := List.take_of_length_le (by show (Lr.map _).length ≤ _; rw [List.length_map]; exact Nat.le_refl _)
      rw [e1] at eF
      rw [e2] at hks
      refine ⟨eC, ?_⟩
      have sN : Same H (upd Hc ca (.dK (dk Lr))) := fun b o e => by
        by_cases z : b = ca
        · subst z; rw [upd_same, ← e, hCd]
        · rw [upd_ne z]; exact fr b o e z
      have eD1 : upd Hc ca (.dK (dk Lr)) D = some (.dK (dkW (fun x : Addr × Tr.Lb => V.ref x.1) Lj)) := by rw [upd_ne nDca.symm]; exact eD
      have hLj1 : ∀ k x, Tr.gv Lj k = some x → SqT K (upd Hc ca (.dK (dk Lr))) x.1 (lbV x.2) := fun k x e => (TupK.dK (.inr ⟨_, eC⟩)).sq (hLj k x e)
      generalize upd Hc ca (.dK (dk Lr)) = H1 at sN eD1 hLj1 ⊢
      refine ⟨.ref D, rfl, D, _, rfl, .inl eD1, fun l nl => ?_⟩
      have sl := sameNew (o := .lst ((dkW (fun x : Addr × Tr.Lb => V.ref x.1) Lj).map fun kv => kV kv.1)) nl
      have nl0 : H l = none := sN.free nl
      have eW : ((dkW (fun x : Addr × Tr.Lb => V.ref x.1) Lj).map fun kv => kV kv.1) = (Tr.init Lr ℓ).wait.map V.int := by
        show _ = (Tr.ks Lr).map V.int
        rw [← hks]
        unfold dkW Tr.ks
        rw [List.map_map, List.map_map]; rfl
      have hI := Tr.init_ok (t := t) (p := pt) (ℓ := (ℓ : Int)) hnL hrL
      have hG := Tr.init_path (t := t) (L := Lr) (ℓ := (ℓ : Int)) hrL
      have hB := Tr.init_bud (t := t) (L := Lr) (ℓ := (ℓ : Int)) hrl hnL hrL
      obtain ⟨N, hN⟩ := Tr.ends W hp hI
      refine ⟨fun m σ Hc => ∃ (n : Nat) (y4 y5 y6 y7 y8 y9 : Option V), m = N - n ∧ n ≤ N ∧ σ = [some (.ref x), some (.int (ℓ : Int)), some (.ref D), some (.ref l), y4, y5, y6, y7, y8, y9] ∧ Same H Hc ∧ DTup K Hc (Is Hc) lbV D (Tr.stepN t n (Tr.init Lr ℓ)).found ∧ Hc l = some (.lst ((Tr.stepN t n (Tr.init Lr ℓ)).wait.map V.int)),
        ⟨_, 0, none, none, none, none, none, none, rfl, Nat.zero_le _, rfl, sN.trans sl, ⟨Lj, sl _ _ eD1, eF, fun k x e => (TupK.of sl).sq (hLj1 k x e)⟩, by rw [upd_same, eW]; rfl⟩, ?_⟩
      rintro m σ Hc ⟨n, y4, y5, y6, y7, y8, y9, rfl, hn, rfl, sc, hD, hl⟩
      have Iv := Tr.stepN_ok W hp (n := n) hI
      obtain ⟨Gp, Bp⟩ := Tr.stepN_bud W hp (n := n) hI hG
      have eS : Tr.stepN t (n + 1) (Tr.init Lr ℓ) = Tr.stepS t (Tr.stepN t n (Tr.init Lr ℓ)) := Tr.stepN_add t n 1 _
      generalize hs : Tr.stepN t n (Tr.init Lr ℓ) = S at hD hl Iv Gp Bp eS
      refine ⟨.ref l, rfl, l, _, rfl, .inl (SqL.of hl), _, _, rfl, rfl, _, rfl, ?_⟩
      cases hw : S.wait with
      | nil =>
        rw [hw] at hl
        refine iteF ?_
        exact ⟨_, rfl, q Hc D S.found sc nD0 hD ⟨n, by rw [hs]; exact hw, by rw [hs]⟩⟩
      | cons a wt =>
        rw [hw] at hl
        have hpos : decide ((0 : Int) < ((((a :: wt).map V.int).length : Nat) : Int)) = true := decide_eq_true (by simp only [List.map_cons, List.length_cons]; omega)
        show (if decide ((0 : Int) < ((((a :: wt).map V.int).length : Nat) : Int)) = true then _ else _)
        rw [if_pos hpos]
        have hnN : n < N := by
          by_cases z : n < N
          · exact z
          · have : n = N := by omega
            rw [this] at hs
            rw [hs, hw] at hN; cases hN
        obtain ⟨la, ela⟩ := Iv.1.wt a (by rw [hw]; exact List.mem_cons_self)
        have ra := Iv.1.rng a la ela
        refine ⟨fun σ Hc => ∃ (y4 y5 y6 y7 y8 y9 : Option V), σ = [some (.ref x), some (.int (ℓ : Int)), some (.ref D), some (.ref l), y4, y5, y6, y7, y8, y9] ∧ Same H Hc ∧ DTup K Hc (Is Hc) lbV D (Tr.stepN t (n + 1) (Tr.init Lr ℓ)).found ∧ Hc l = some (.lst ((Tr.stepN t (n + 1) (Tr.init Lr ℓ)).wait.map V.int)),
          fun σ' H' ⟨y4, y5, y6, y7, y8, y9, e1, e2, e3, e4⟩ => ⟨N - (n + 1), by omega, n + 1, y4, y5, y6, y7, y8, y9, rfl, by omega, e1, e2, e3, e4⟩, ?_⟩
        have eS2 : Tr.stepS t S = if 0 < Tr.rm t a then ⟨S.found, wt⟩ else Tr.expand t a ⟨S.found, wt⟩ := by unfold Tr.stepS; rw [hw]
        refine ⟨.ref l, rfl, .inl ⟨rfl, _, SqL.of hl⟩, l, _, 0, 0, .int a, rfl, rfl, hl, by decide, by decide, by simp [seqIndex?], rfl, ?_⟩
        have eP : ((a :: wt).map V.int).eraseIdx 0 = wt.map V.int := rfl
        rw [eP]
        have nlD : D ≠ l := ne_of_none eD1 nl
        have sP : Same H (upd Hc l (.lst (wt.map V.int))) := fun b o e => by rw [upd_ne (ne_of_none e nl0)]; exact sc _ _ e
        obtain ⟨Lf, hRf, eLf, hLf⟩ := hD
        have hD1 : upd Hc l (.lst (wt.map V.int)) D = some (.dK (dkW (fun x : Addr × Tr.Lb => V.ref x.1) Lf)) := by rw [upd_ne nlD]; exact hRf
        have hLf1 : ∀ k x, Tr.gv Lf k = some x → SqT K (upd Hc l (.lst (wt.map V.int))) x.1 (lbV x.2) := fun k x e => (TupK.put hl).sq (hLf k x e)
        have hl1 : upd Hc l (.lst (wt.map V.int)) l = some (.lst (wt.map V.int)) := upd_same
        generalize upd Hc l (.lst (wt.map V.int)) = H2 at sP hD1 hLf1 hl1 ⊢
        obtain ⟨dx2, ob2⟩ := (hT.same sP).ob
        refine ⟨.ref x, rfl, x, cT, dx, _, _, rfl, sP _ _ ob, T.cl, T.nR, fT_room _ _ _, .int a, rfl, r, _, _, .int (Tr.rm t a), rfl, rfl, SqL.of (sP _ _ hT.rm), atI_int ra.1 (rm_at ra), _, _, rfl, rfl, _, rfl, ?_⟩
        refine ite2 (fun h1 => ?_) (fun h1 => ?_)
        · have h1 : 0 < Tr.rm t a := of_decide_eq_true h1
          rw [if_pos h1] at eS2
          rw [eS2] at eS
          exact ⟨_, _, _, _, _, _, rfl, sP, by rw [eS]; exact ⟨Lf, hD1, eLf, hLf1⟩, by rw [eS]; exact hl1⟩
        · have h1 : ¬ 0 < Tr.rm t a := fun z => h1 (decide_eq_true z)
          rw [if_neg h1] at eS2
          have ex : Tr.expand t a ⟨S.found, wt⟩ = (Tr.moves t a).foldl (Tr.offer1 a la) ⟨S.found, wt⟩ := by unfold Tr.expand; simp only [ela]
          rw [eS2, ex] at eS
          have Ip := Iv.1.pop hw
          have bp : Tr.bud t Lr ⟨S.found, wt⟩ ≤ Tr.bud t Lr S := by unfold Tr.bud; rw [hw]; simp only [List.length_cons]; omega
          have ndM := (Tr.moves_arc (t := t) (a := a)).1
          refine ⟨.ref x, rfl, x, dx, _, rfl, sP _ _ ob, fT_no _ _ _ (by decide +kernel) (by decide +kernel) (by decide +kernel), .int a, rfl, x, r, c, p, cd, pd, t, a, rfl, hT.same sP, W, hrl, hpl, fun H3 d2 s3 nd2 hM => ?_⟩
          obtain ⟨Lm, hRm, eLm, hLm⟩ := hM
          have nd2D : d2 ≠ D := fun z => by rw [z, hD1] at nd2; cases nd2
          have nd2l : d2 ≠ l := fun z => by rw [z, hl1] at nd2; cases nd2
          refine ⟨d2, _, rfl, hRm, fun o2 => ⟨d2, o2, _, rfl, upd_same, for_it walk_items
            (fun j σ Hj => ∃ (y5 y6 y7 y8 y9 : Option V), σ = [some (.ref x), some (.int (ℓ : Int)), some (.ref D), some (.ref l), some (.int a), y5, y6, y7, y8, y9] ∧ Same H Hj ∧ Hj d2 = some (.frz o2 (.dK (dkW (fun x : Addr × (Int × Int) => V.ref x.1) Lm))) ∧ (∀ k x, Tr.gv Lm k = some x → SqT K Hj x.1 (mvV x.2)) ∧ DTup K Hj (Is Hj) lbV D (((Tr.moves t a).take j).foldl (Tr.offer1 a la) ⟨S.found, wt⟩).found ∧ Hj l = some (.lst ((((Tr.moves t a).take j).foldl (Tr.offer1 a la) ⟨S.found, wt⟩).wait.map V.int)))
            ⟨_, _, _, _, _, rfl, fun b o e => by rw [upd_ne (ne_of_none (sP _ _ e) nd2)]; exact s3 _ _ (sP _ _ e), upd_same, fun k x e => (TupK.dK (.inl hRm)).sq (hLm k x e), ⟨Lf, by show upd H3 d2 _ D = _; rw [upd_ne nd2D.symm]; exact s3 _ _ hD1, eLf, fun k x e => (TupK.dK (.inl hRm)).sq ((TupK.of s3).sq (hLf1 k x e))⟩, by rw [upd_ne nd2l.symm]; exact s3 _ _ hl1⟩ (fun j σ Hj _ h => by obtain ⟨_, _, _, _, _, _, _, e, _⟩ := h; exact e) ?_ ?_⟩⟩
          · rintro j y σ Ha Hb hj ⟨y5, y6, y7, y8, y9, rfl, sj, eM2, hLmj, hDj, hlj⟩ ⟨Tp, u, v, rfl, nTp, rfl, hu, hv⟩
            rw [dkW_len] at hj
            have eL : Lm[j]? = some Lm[j] := List.getElem?_eq_getElem hj
            generalize Lm[j] = en at eL
            obtain ⟨k, mt, cst, row⟩ := en
            have hu : ((dkW (fun x : Addr × (Int × Int) => V.ref x.1) Lm)[j]?).map (fun kv => kV kv.1) = some u := hu
            have hv : ((dkW (fun x : Addr × (Int × Int) => V.ref x.1) Lm)[j]?).map Prod.snd = some v := hv
            rw [dkW_get, eL] at hu hv
            have hu : V.int k = u := Option.some.inj hu
            have hv : V.ref mt = v := Option.some.inj hv
            subst hu hv
            have ndLm : (Tr.ks Lm).Nodup := by rw [← ks_map (fun x : Addr × (Int × Int) => x.2), ← eLm]; exact ndM
            have hmt := hLmj k (mt, cst, row) (Tr.gv_of_mem ndLm (List.mem_of_getElem? eL))
            have eMj : (Tr.moves t a)[j]? = some (k, cst, row) := by rw [eLm, List.getElem?_map, eL]; rfl
            have hsub : ∀ m ∈ (Tr.moves t a).take j, Tr.gv (Tr.moves t a) m.1 = some m.2 := fun m h => Tr.gv_of_mem ndM (List.mem_of_mem_take h)
            obtain ⟨Ij, _, eaj, _, _⟩ := Tr.fold_ok W hp (by omega : Tr.rm t a ≤ 0) (ms := (Tr.moves t a).take j) Ip ela hsub
            obtain ⟨_, bj⟩ := Tr.fold_bud W hp (by omega : Tr.rm t a ≤ 0) (ms := (Tr.moves t a).take j) Ip Gp.pop ela hsub
            have eNx : ((Tr.moves t a).take (j + 1)).foldl (Tr.offer1 a la) ⟨S.found, wt⟩ = Tr.offer1 a la (((Tr.moves t a).take j).foldl (Tr.offer1 a la) ⟨S.found, wt⟩) (k, cst, row) := by rw [take_snoc eMj, List.foldl_append]; rfl
            generalize ((Tr.moves t a).take j).foldl (Tr.offer1 a la) ⟨S.found, wt⟩ = Sj at hDj hlj Ij eaj bj eNx
            rw [eNx]
            obtain ⟨Lj, hRj, eLj, hLj⟩ := hDj
            have hwl : Sj.wait.length ≤ 6800000 := by unfold Tr.bud at bj bp Bp hB; unfold Tr.bud at *; omega
            have hkj : Tr.ks Sj.found = Tr.ks Lj := by rw [eLj, ks_map]
            have ndj : (Tr.ks Lj).Nodup := by rw [← hkj]; exact Ij.nd
            have szj : Lj.length ≤ 7 := by
              have := Tr.nodup_range (m := t.room.length) ndj (fun k' hk' => by
                rw [← hkj] at hk'
                obtain ⟨l', e'⟩ := Tr.gv_of_ks hk'
                exact Ij.rng k' l' e')
              simp only [Tr.ks, List.length_map] at this
              omega
            have eaj' := eaj
            rw [eLj, gv_map] at eaj'
            obtain ⟨⟨ta, lb⟩, eta, elb⟩ := Option.map_eq_some_iff.mp eaj'
            have elb : lb = la := elb
            subst elb
            have sT := sameNew (o := .tup [.int k, .ref mt]) nTp
            have s4 := sj.trans sT
            have hta := (TupK.of sT).sq (hLj a (ta, lb) eta)
            have hDa := sT _ _ hRj
            refine ⟨Tp, _, rfl, SqT.of upd_same, rfl, _, _, rfl, _, _, rfl, mt, _, rfl, (TupK.of sT).sq hmt, rfl, _, _, rfl, _, _, rfl, rfl, rfl, ?_⟩
            refine ⟨.ref D, rfl, .int a, rfl, D, _, rfl, DGet.dkW (fun x : Addr × Tr.Lb => V.ref x.1) (.inl hDa) eta, ta, _, 0, .int lb.1, rfl, rfl, hta, atI_nat (j := 0) rfl, .int cst, rfl, _, _, rfl, rfl, .ref D, rfl, .int a, rfl, D, _, rfl, DGet.dkW (fun x : Addr × Tr.Lb => V.ref x.1) (.inl hDa) eta, ta, _, 1, .int lb.2.1, rfl, rfl, hta, atI_nat (j := 1) rfl, _, _, rfl, rfl, .int row, rfl, .int a, rfl, four, fun TO nTO => ?_⟩
            have s5 := sT.trans (sameNew (o := .tup [.int (lb.1 + cst), .int (lb.2.1 + 1), .int row, .int a]) nTO)
            have hTO : SqT K (upd (upd Ha Tp (.tup [.int k, .ref mt])) TO (.tup [.int (lb.1 + cst), .int (lb.2.1 + 1), .int row, .int a])) TO (lbV (lb.1 + cst, lb.2.1 + 1, row, some a)) := SqT.of upd_same
            have cut : Tr.gv Sj.found k = (Tr.gv Lj k).map (·.2) := by rw [eLj, gv_map]
            have hD5 := s5 _ _ hRj
            have hl5 := s5 _ _ hlj
            have hM5 := s5 _ _ eM2
            have yes : Tr.better Sj.found k (lb.1 + cst, lb.2.1 + 1) = true → ∀ (H6 : Hp), Same (upd (upd Ha Tp (.tup [.int k, .ref mt])) TO (.tup [.int (lb.1 + cst), .int (lb.2.1 + 1), .int row, .int a])) H6 →
                ∀ z5 z6 z7 z8 z9 : Option V, ∃ (y5 y6 y7 y8 y9 : Option V), [some (V.ref x), some (.int (ℓ : Int)), some (.ref D), some (.ref l), some (.int a), z5, z6, z7, z8, z9] = [some (V.ref x), some (.int (ℓ : Int)), some (.ref D), some (.ref l), some (.int a), y5, y6, y7, y8, y9] ∧ Same H (upd (upd H6 D (.dK (dkW (fun x : Addr × Tr.Lb => V.ref x.1) (Tr.pt Lj k (TO, (lb.1 + cst, lb.2.1 + 1, row, some a)))))) l (.lst (Sj.wait.map V.int ++ [.int k]))) ∧
                  upd (upd H6 D (.dK (dkW (fun x : Addr × Tr.Lb => V.ref x.1) (Tr.pt Lj k (TO, (lb.1 + cst, lb.2.1 + 1, row, some a)))))) l (.lst (Sj.wait.map V.int ++ [.int k])) d2 = some (.frz o2 (.dK (dkW (fun x : Addr × (Int × Int) => V.ref x.1) Lm))) ∧ (∀ k' x, Tr.gv Lm k' = some x → SqT K (upd (upd H6 D (.dK (dkW (fun x : Addr × Tr.Lb => V.ref x.1) (Tr.pt Lj k (TO, (lb.1 + cst, lb.2.1 + 1, row, some a)))))) l (.lst (Sj.wait.map V.int ++ [.int k]))) x.1 (mvV x.2)) ∧
                  DTup K (upd (upd H6 D (.dK (dkW (fun x : Addr × Tr.Lb => V.ref x.1) (Tr.pt Lj k (TO, (lb.1 + cst, lb.2.1 + 1, row, some a)))))) l (.lst (Sj.wait.map V.int ++ [.int k]))) (Is (upd (upd H6 D (.dK (dkW (fun x : Addr × Tr.Lb => V.ref x.1) (Tr.pt Lj k (TO, (lb.1 + cst, lb.2.1 + 1, row, some a)))))) l (.lst (Sj.wait.map V.int ++ [.int k])))) lbV D (Tr.offer1 a lb Sj (k, cst, row)).found ∧
                  upd (upd H6 D (.dK (dkW (fun x : Addr × Tr.Lb => V.ref x.1) (Tr.pt Lj k (TO, (lb.1 + cst, lb.2.1 + 1, row, some a)))))) l (.lst (Sj.wait.map V.int ++ [.int k])) l = some (.lst ((Tr.offer1 a lb Sj (k, cst, row)).wait.map V.int)) := fun hb H6 s6 z5 z6 z7 z8 z9 => by
              have eO : Tr.offer1 a lb Sj (k, cst, row) = ⟨Tr.pt Sj.found k (lb.1 + cst, lb.2.1 + 1, row, some a), Sj.wait ++ [k]⟩ := by unfold Tr.offer1; rw [if_pos hb]
              have hD6 := s6 _ _ hD5
              have hl6 := s6 _ _ hl5
              have tk : TupK H6 (upd (upd H6 D (.dK (dkW (fun x : Addr × Tr.Lb => V.ref x.1) (Tr.pt Lj k (TO, (lb.1 + cst, lb.2.1 + 1, row, some a)))))) l (.lst (Sj.wait.map V.int ++ [.int k]))) :=
                (TupK.dK (.inl hD6)).trans (.put (ys := Sj.wait.map V.int) (by rw [upd_ne nlD.symm]; exact hl6))
              refine ⟨_, _, _, _, _, rfl, fun b o e => ?_, ?_, fun k' y' e => ?_, ?_, ?_⟩
              · rw [upd_ne (ne_of_none e nl0), upd_ne (ne_of_none e nD0)]
                exact s6 _ _ (s5 _ _ (sj _ _ e))
              · rw [upd_ne nd2l, upd_ne nd2D]; exact s6 _ _ hM5
              · exact tk.sq ((TupK.of s6).sq ((TupK.of s5).sq (hLmj k' y' e)))
              · rw [eO]
                refine ⟨Tr.pt Lj k (TO, (lb.1 + cst, lb.2.1 + 1, row, some a)), ?_, ?_, fun k' y' e => ?_⟩
                · show upd (upd H6 D _) l _ D = _
                  rw [upd_ne nlD, upd_same]
                · show Tr.pt Sj.found k _ = _
                  rw [eLj]; exact (pt_map (fun x : Addr × Tr.Lb => x.2) Lj k (TO, (lb.1 + cst, lb.2.1 + 1, row, some a))).symm
                · rw [Tr.gv_pt] at e
                  by_cases z : k = k'
                  · rw [if_pos z] at e; cases e
                    exact tk.sq ((TupK.of s6).sq hTO)
                  · rw [if_neg z] at e
                    exact tk.sq ((TupK.of s6).sq ((TupK.of s5).sq (hLj k' y' e)))
              · rw [upd_same, eO]
                show _ = some (HO.lst ((Sj.wait ++ [k]).map V.int))
                rw [List.map_append]; rfl
            cases eg : Tr.gv Lj k with
            | none =>
              refine ⟨.int k, rfl, .ref D, rfl, D, _, rfl, DGet.dkO (fun x : Addr × Tr.Lb => V.ref x.1) (.inl hD5) k, _, rfl, ?_⟩
              rw [eg]
              refine iteT (iteT ?_)
              refine ⟨.ref TO, rfl, .ref D, rfl, .int k, rfl, D, _, rfl, DPut.dkW (fun x : Addr × Tr.Lb => V.ref x.1) ndj hD5 (small (by omega)) k (TO, (lb.1 + cst, lb.2.1 + 1, row, some a)), .ref l, rfl, .inl ⟨rfl, _, SqL.of (by rw [upd_ne nlD.symm]; exact hl5)⟩, .int k, rfl, l, _, _, rfl, rfl, (by rw [upd_ne nlD.symm]; exact hl5), by rw [List.length_map]; exact line68 (by omega), ?_⟩
              refine yes ?_ _ (Same.refl _) _ _ _ _ _
              unfold Tr.better; rw [cut, eg]; rfl
            | some y =>
              refine ⟨.int k, rfl, .ref D, rfl, D, _, rfl, DGet.dkO (fun x : Addr × Tr.Lb => V.ref x.1) (.inl hD5) k, _, rfl, ?_⟩
              rw [eg]
              refine iteF ?_
              refine ⟨.ref TO, rfl, sl_take2 hTO fun H6 b6 s6 hb6 => ⟨.ref D, rfl, .int k, rfl, D, _, rfl, DGet.dkW (fun x : Addr × Tr.Lb => V.ref x.1) (.inl (s6 _ _ hD5)) eg, sl_take2 ((TupK.of s6).sq ((TupK.of s5).sq (hLj k y eg))) fun H7 b7 s7 hb7 => ⟨b6, b7, [lb.1 + cst, lb.2.1 + 1], [y.2.1, y.2.2.1], rfl, rfl, (TupK.of s7).sq hb6, hb7, _, rfl, ?_⟩⟩⟩
              rw [lexLt_ltP]
              have s67 := s6.trans s7
              refine ite2 (fun h2 => ?_) (fun h2 => ?_)
              · refine ⟨.ref TO, rfl, .ref D, rfl, .int k, rfl, D, _, rfl, DPut.dkW (fun x : Addr × Tr.Lb => V.ref x.1) ndj (s67 _ _ hD5) (small (by omega)) k (TO, (lb.1 + cst, lb.2.1 + 1, row, some a)), .ref l, rfl, .inl ⟨rfl, _, SqL.of (by rw [upd_ne nlD.symm]; exact s67 _ _ hl5)⟩, .int k, rfl, l, _, _, rfl, rfl, (by rw [upd_ne nlD.symm]; exact s67 _ _ hl5), by rw [List.length_map]; exact line68 (by omega), ?_⟩
                refine yes ?_ _ s67 _ _ _ _ _
                unfold Tr.better; rw [cut, eg]; exact h2
              · have eO : Tr.offer1 a lb Sj (k, cst, row) = Sj := by
                  unfold Tr.offer1
                  rw [if_neg]
                  unfold Tr.better; rw [cut, eg]; exact h2
                have s57 := s5.trans s67
                refine ⟨_, _, _, _, _, rfl, sj.trans s57, s57 _ _ eM2, fun k' y' e => (TupK.of s57).sq (hLmj k' y' e), ?_, ?_⟩
                · rw [eO]; exact ⟨Lj, s57 _ _ hRj, eLj, fun k' y' e => (TupK.of s57).sq (hLj k' y' e)⟩
                · rw [eO]; exact s57 _ _ hlj
          · rintro σ Hj ⟨y5, y6, y7, y8, y9, rfl, sj, eM2, hLmj, hDj, hlj⟩
            have el : (Tr.moves t a).take (dkW (fun x : Addr × (Int × Int) => V.ref x.1) Lm).length = Tr.moves t a := List.take_of_length_le (by rw [dkW_len, eLm, List.length_map]; exact Nat.le_refl _)
            rw [el] at hDj hlj
            exact ⟨_, _, _, _, _, _, rfl, sj, by rw [eS]; exact hDj, by rw [eS]; exact hlj⟩
end
end Pv

namespace Pv
open PySem PySem.Spec PyProof.Rows L2
/-! a comprehension whose elements only make new objects -/
def LcP {α : Type} (H1 : Hp) (D : Addr) (zs : List α) (F : α → Option V) (i : Nat) (H : Hp) : Prop := Same H1 H ∧ H D = some (.lst ((zs.take i).filterMap F))
section
variable {α : Type} {H1 H H' : Hp} {D : Addr} {zs : List α} {F : α → Option V} {i : Nat} {x : α} {y : V}
theorem LcP.start (nD : H1 D = none) : LcP H1 D zs F 0 (upd H1 D (.lst [])) := ⟨sameNew nD, by rw [upd_same]; rfl⟩
theorem LcP.yes (h : LcP H1 D zs F i H) (nD : H1 D = none) (s : Same H H') (hx : zs[i]? = some x) (hF : F x = some y) (hi : i ≤ 1000000) : ∃ acc, H' D = some (.lst acc) ∧ acc.length < sizeLine ∧ LcP H1 D zs F (i + 1) (upd H' D (.lst (acc ++ [y]))) := by
  refine ⟨_, s _ _ h.2, ?_, samePut (h.1.trans s) nD, ?_⟩
  · have h1 := List.length_filterMap_le F (zs.take i)
    have h2 := List.length_take_le i zs
    exact small (by omega)
  · rw [upd_same, take_snoc hx, List.filterMap_append]
    simp [hF]
theorem LcP.no (h : LcP H1 D zs F i H) (s : Same H H') (hx : zs[i]? = some x) (hF : F x = none) : LcP H1 D zs F (i + 1) H' := by
  refine ⟨h.1.trans s, ?_⟩
  rw [s _ _ h.2, take_snoc hx, List.filterMap_append]
  simp [hF]
theorem LcP.done (h : LcP H1 D zs F i H) (hi : zs.length ≤ i) : H D = some (.lst (zs.filterMap F)) := by have := h.2; rwa [List.take_of_length_le hi] at this
end
theorem fm_map {α : Type} (f : α → V) (zs : List α) : zs.filterMap (fun x => some (f x)) = zs.map f := by
  induction zs with
  | nil => rfl
  | cons z zs ih => simp
theorem fm_filter {α : Type} (p : α → Bool) (f : α → V) (zs : List α) : zs.filterMap (fun x => if p x = true then some (f x) else none) = (zs.filter p).map f := by
  induction zs with
  | nil => rfl
  | cons z zs ih => by_cases h : p z = true <;> simp [h, ih]
def Rl {β : Type} (R : V → β → Prop) (vs : List V) (rs : List β) : Prop := vs.length = rs.length ∧ ∀ (j : Nat) (v : V) (r : β), vs[j]? = some v → rs[j]? = some r → R v r
section
variable {β : Type} {R R' : V → β → Prop} {vs : List V} {rs : List β}
theorem Rl.nil : Rl R [] [] := ⟨rfl, fun j v r h => by simp at h⟩
theorem Rl.mono (h : Rl R vs rs) (f : ∀ v r, R v r → R' v r) : Rl R' vs rs := ⟨h.1, fun j v r h1 h2 => f _ _ (h.2 j v r h1 h2)⟩
theorem Rl.snoc {v : V} {r : β} (h : Rl R vs rs) (hv : R v r) : Rl R (vs ++ [v]) (rs ++ [r]) := by
  refine ⟨by simp [h.1], fun j v' r' h1 h2 => ?_⟩
  by_cases hj : j < vs.length
  · rw [List.getElem?_append_left hj] at h1
    rw [List.getElem?_append_left (by rw [← h.1]; exact hj)] at h2
    exact h.2 j v' r' h1 h2
  · rw [List.getElem?_append_right (by omega)] at h1
    rw [List.getElem?_append_right (by rw [← h.1]; omega)] at h2
    have e : j - vs.length = 0 := by have := (List.getElem?_eq_some_iff.mp h1).1; simp at this; omega
    rw [e] at h1
    rw [← h.1, e] at h2
    simp at h1 h2
    rw [← h1, ← h2]; exact hv
theorem Rl.at {j : Nat} {v : V} (h : Rl R vs rs) (hv : vs[j]? = some v) : ∃ r, rs[j]? = some r ∧ R v r := by
  have hj : j < rs.length := by rw [← h.1]; exact (List.getElem?_eq_some_iff.mp hv).1
  exact ⟨rs[j], List.getElem?_eq_getElem hj, h.2 j v _ hv (List.getElem?_eq_getElem hj)⟩
end
theorem sqS {K : PySem.W.Frag} {H H' : Hp} {a : Addr} {xs : List V} (s : Same H H') (h : SqT K H a xs) : SqT K H' a xs := (TupK.of s).sq h
theorem atS {xs : List Int} {j : Nat} (h : j < xs.length) : (xs.map V.int)[j]? = some (.int xs[j]) := by rw [List.getElem?_map, List.getElem?_eq_getElem h]; rfl
section
variable {X : Cx}
def rEqNilT (K : PySem.W.Frag) : R2 := fun x y H Q => ∃ (a b : Addr) (xs : List V), x = .ref a ∧ y = .ref b ∧ SqT K H a xs ∧ SqT K H b [] ∧ Q (.bl xs.isEmpty) H
theorem op_eqNilT (hu : X.A.units < cLine) : OpR X (compareOp .Eq) (rEqNilT X.K) := by
  intro pins s σ H x y v u Q I rx ry h
  obtain ⟨a, b, xs, rfl, rfl, ha, hb, q⟩ := h
  cases rx
  cases ry
  obtain ⟨its, r1, p1, z1⟩ := I.tuple ha
  obtain ⟨its2, r2, p2, z2⟩ := I.tuple hb
  cases r2
  have hl := r1.length
  have key := SeqAt.RcAt.tuples (A := X.A) (e := fun _ => true) (show s.heap.IsTuple a its.toArray from p1) (show s.heap.IsTuple b ([] : List Value).toArray from p2) hu (fun j _ h2 => absurd h2 (Nat.not_lt_zero _)) X.prog X.w
  have e : ((List.range (min its.toArray.size ([] : List Value).toArray.size)).all (fun _ => true) && its.toArray.size == ([] : List Value).toArray.size) = xs.isEmpty := by
    rw [List.size_toArray, ← hl]
    cases xs <;> simp
  rw [e] at key
  exact key _ _ ⟨.bl _, H, I, rfl, q⟩
end
end Pv

namespace Pv
open PySem PySem.Spec PyProof.Rows L2
/-! repr of any such value -/
theorem call_reprA {X : Cx} (hg : X.A.guards = some []) (hu : X.A.units + 70 < cLine) : CallR X (.builtin "repr")
    (fun xs H Q => ∃ v d st r, xs = [v] ∧ Dq X.K st r H v d ∧ d.showable = true ∧ d.depth ≤ 60 ∧ d.shown.length ≤ sizeLine ∧ Q (.str d.shown) H) := by
  intro pins s σ H xs us Q I rv h
  obtain ⟨v, d, st, r, rfl, hd, h1, h3, h4, q⟩ := h
  by_cases hv : ∃ a, v = .ref a
  · obtain ⟨a, rfl⟩ := hv
    exact call_reprQ hg hu pins s σ H _ us Q I rv ⟨a, d, st, r, rfl, hd, h1, h3, h4, q⟩
  · obtain ⟨u, rfl, ru⟩ := vals1 rv
    cases hd with
    | non => cases ru; exact PySem.P.repr_of_none ⟨.str _, H, I.tok _, ⟨_, rfl⟩, q⟩
    | bl b => cases ru; cases b <;> exact PySem.P.repr_of_bool ⟨.str _, H, I.tok _, ⟨_, rfl⟩, q⟩
    | int i =>
      obtain ⟨t, rfl⟩ := ru
      exact PySem.P.repr_of_int (by simpa [PyData.showable] using h1) ⟨.str _, H, I.tok _, ⟨_, rfl⟩, q⟩
    | str x =>
      obtain ⟨t, rfl⟩ := ru
      exact PySem.P.repr_of_str ⟨.str _, H, I.tok _, ⟨_, rfl⟩, q⟩ h4
    | lst _ => exact absurd ⟨_, rfl⟩ hv
    | tup _ => exact absurd ⟨_, rfl⟩ hv
    | dct _ => exact absurd ⟨_, rfl⟩ hv
/-! written values -/
def tLit (K : PySem.W.Frag) (d : PyData) : TE := fun _ H Q => ∃ st r, (H st ≠ none ∧ H r ≠ none) ∧ ∀ H' v, Same H H' → Dq K st r H' v d → Q v H'
def tLits (K : PySem.W.Frag) (ds : List PyData) : TA := fun _ H Q => ∃ st r, (H st ≠ none ∧ H r ≠ none) ∧ ∀ H' vs, Same H H' → DqAll K st r H' vs ds → Q vs H'
theorem occ {H H' : Hp} {st r : Addr} (h : H st ≠ none ∧ H r ≠ none) (s : Same H H') : H' st ≠ none ∧ H' r ≠ none := by
  obtain ⟨h1, h2⟩ := h
  constructor
  · cases e : H st with
    | none => exact absurd e h1
    | some o => rw [s _ _ e]; simp
  · cases e : H r with
    | none => exact absurd e h2
    | some o => rw [s _ _ e]; simp
theorem occ_ne {H : Hp} {st r p : Addr} (h : H st ≠ none ∧ H r ≠ none) (np : H p = none) : p ≠ st ∧ p ≠ r := ⟨fun e => h.1 (e ▸ np), fun e => h.2 (e ▸ np)⟩
theorem DqAll.rep {K : PySem.W.Frag} {st r : Addr} {H : Hp} {vs : List V} {ds : List PyData} (h : DqAll K st r H vs ds) : ∀ k : Nat, DqAll K st r H (List.replicate k vs).flatten (List.replicate k ds).flatten
  | 0 => .nil
  | k + 1 => by
    rw [List.replicate_succ, List.replicate_succ, List.flatten_cons, List.flatten_cons]
    exact h.app (DqAll.rep h k)
section
variable {X : Cx} {e : Expr} {es : List Expr} {pos p1 p2 : Pos} {d : PyData} {ds : List PyData}
theorem pe_mono {t t' : TE} (h : PE X e t) (m : ∀ σ H Q, t' σ H Q → t σ H Q) : PE X e t' := ⟨fun pins s σ H Q I q => h.run pins s σ H Q I (m _ _ _ q)⟩
theorem pa_mono {t t' : TA} (h : PA X es t) (m : ∀ σ H Q, t' σ H Q → t σ H Q) : PA X es t' := ⟨fun pos pins s σ H Q I q => h.run pos pins s σ H Q I (m _ _ _ q)⟩
theorem lit_c {v : V} (h : PE X e (tC v)) (hd : ∀ st r H, Dq X.K st r H v d) : PE X e (tLit X.K d) := pe_mono h fun σ H Q ⟨st, r, _, q⟩ => q H v (Same.refl H) (hd st r H)
theorem lit_int {n : Int} (h : PE X e (tC (.int n))) : PE X e (tLit X.K (.int n)) := lit_c h fun _ _ _ => .int n
theorem lit_bl {b : Bool} (h : PE X e (tC (.bl b))) : PE X e (tLit X.K (.bool b)) := lit_c h fun _ _ _ => .bl b
theorem lit_str {x : Str} (h : PE X e (tC (.str x))) : PE X e (tLit X.K (.str x)) := lit_c h fun _ _ _ => .str x
theorem lit_non (h : PE X e (tC .non)) : PE X e (tLit X.K .none) := lit_c h fun _ _ _ => .non
theorem lit_pow {a b : Int} (h : PE X e (tOp (rI CPow fun i j => .int (i ^ j.toNat)) (tC (.int a)) (tC (.int b)))) (hc : CPow a b) : PE X e (tLit X.K (.int (a ^ b.toNat))) :=
  pe_mono h fun σ H Q ⟨st, r, _, q⟩ => ⟨a, b, rfl, rfl, hc, q H _ (Same.refl H) (.int _)⟩
theorem lit_add {e1 e2 : Expr} {a b : Int} (h1 : PE X e1 (tLit X.K (.int a))) (h2 : PE X e2 (tLit X.K (.int b))) : PE X (.BinOp e1 .Add e2 pos) (tLit X.K (.int (a + b))) :=
  pe_mono (pe_op op_add h1 h2) fun σ H Q ⟨st, r, oc, q⟩ => ⟨st, r, oc, fun H1 v1 s1 d1 => ⟨st, r, occ oc s1, fun H2 v2 s2 d2 => by
    cases d1; cases d2
    exact ⟨a, b, rfl, rfl, q H2 _ (s1.trans s2) (.int _)⟩⟩⟩
theorem lits_nil : PA X [] (tLits X.K []) := pa_mono pa_nil fun σ H Q ⟨st, r, _, q⟩ => q H [] (Same.refl H) .nil
theorem lits_cons (h : PE X e (tLit X.K d)) (hs : PA X es (tLits X.K ds)) (hq : starEach (e :: es) X.env = (false, eval e X.env) :: starEach es X.env := by rfl) : PA X (e :: es) (tLits X.K (d :: ds)) :=
  pa_mono (pa_cons h hs hq) fun σ H Q ⟨st, r, oc, q⟩ => ⟨st, r, oc, fun H1 v s1 d1 => ⟨st, r, occ oc s1, fun H2 vs s2 d2 => q H2 _ (s1.trans s2) (.cons (d1.lasts (.of s2)) d2)⟩⟩
theorem small6 {n : Nat} (h : n ≤ 1000000) : n ≤ sizeLine := Nat.le_of_lt (Nat.lt_of_le_of_lt h (by decide))
theorem lit_tup {k : Nat} (h : PA X es (tLits X.K ds)) (hl : ds.length ≤ 1000000) : PE X (.Tuple es k pos) (tLit X.K (.tuple ds)) :=
  pe_mono (pe_tup h) fun σ H Q ⟨st, r, oc, q⟩ => ⟨st, r, oc, fun H1 vs s1 d1 => ⟨by rw [DqAll.len d1]; exact small6 hl, fun p np => q _ _ (s1.trans (sameNew np)) (.tup (SqT.of upd_same) (d1.lasts (.of (sameNew np))))⟩⟩
theorem lit_lst (h : PA X es (tLits X.K ds)) (hl : ds.length ≤ 1000000) : PE X (.List es pos) (tLit X.K (.list ds)) :=
  pe_mono (pe_lstS h) fun σ H Q ⟨st, r, oc, q⟩ => ⟨st, r, oc, fun H1 vs s1 d1 => ⟨by rw [DqAll.len d1]; exact small6 hl, fun p np ns => q _ _ (s1.trans (sameNew np)) (.lst upd_same (occ_ne (occ oc s1) np).1 (occ_ne (occ oc s1) np).2 ns (d1.lasts (.of (sameNew np))))⟩⟩
theorem lit_dict : PE X (.Dict [] [] pos) (tLit X.K (.dict [])) :=
  pe_mono pe_dnewK fun σ H Q ⟨st, r, oc, q⟩ => fun p np => q _ _ (sameNew np) (.dct (kvs := []) upd_same)
theorem lit_rep {e2 : Expr} {n : Int} (k : Nat) (h : PE X e (tLit X.K (.tuple ds))) (h2 : PE X e2 (tC (.int n))) (hk : n = (k : Nat)) (h1 : k ≠ 1) (hne : ds ≠ []) (hk2 : k ≤ 1000) (hl : ds.length ≤ 1000) :
    PE X (.BinOp e .Mult e2 pos) (tLit X.K (.tuple (List.replicate k ds).flatten)) :=
  pe_mono (pe_op op_repA h h2) fun σ H Q ⟨st, r, oc, q⟩ => ⟨st, r, oc, fun H1 v s1 d1 => by
    cases d1 with
    | @tup a xs _ hT ha =>
      have hx := DqAll.len ha
      refine ⟨a, k, xs, rfl, by rw [hk], hT, ?_, hk2, by omega, fun z => absurd z h1, fun _ p np => q _ _ (s1.trans (sameNew np)) (.tup (SqT.of upd_same) ((ha.rep k).lasts (.of (sameNew np))))⟩
      intro z
      subst z
      exact hne (List.eq_nil_of_length_eq_zero (by simpa using hx.symm))⟩
end
/-- a list and a written list behind it -/
theorem cat_lits {K : PySem.W.Frag} {st r L : Addr} {σ : L2.St} {H1 : Hp} {ds es : List PyData} {Q : VK} {vs : List V} (e1 : H1 L = some (.lst vs)) (h1 : DqAll K st r H1 vs ds) (hoc : H1 st ≠ none ∧ H1 r ≠ none) (hlen : ds.length + es.length ≤ 1000000)
    (hq : ∀ H' L' vs', Same H1 H' → H' L' = some (.lst vs') → L' ≠ st → L' ≠ r → DqAll K st r H' vs' (ds ++ es) → Q (.ref L') H') : tLst (tLits K es) σ H1 (fun y H2 => rCat (.ref L) y H2 Q) := by
  refine ⟨st, r, hoc, fun H2 v2 s2 h2 => ⟨by rw [DqAll.len h2]; exact small6 (by omega), fun M nM => ?_⟩⟩
  refine ⟨L, M, vs, v2, rfl, rfl, upNew nM (s2 _ _ e1), upd_same, by rw [DqAll.len h1, DqAll.len h2]; exact small6 (by omega), fun N nN => ?_⟩
  have sM := sameNew (o := .lst v2) nM
  have sN := sameNew (o := .lst (vs ++ v2)) nN
  have s1N := (s2.trans sM).trans sN
  have hN := occ_ne (occ (occ hoc s2) sM) nN
  exact hq _ N _ s1N upd_same hN.1 hN.2 ((h1.lasts (.of s1N)).app (h2.lasts (.of (sM.trans sN))))
/-! how large, by looking -/
mutual
def fitB (M L : Nat) : PyData → Bool
  | .none => true
  | .bool _ => true
  | .int i => decide (i.natAbs ≤ M)
  | .str x => decide ((reprText x).length ≤ L)
  | .list xs => fitAllB M L xs
  | .tuple xs => fitAllB M L xs
  | .dict kvs => decide ((PyData.shown (.dict kvs)).length ≤ 40) && PyData.showable (.dict kvs)
def fitAllB (M L : Nat) : List PyData → Bool
  | [] => true
  | x :: xs => fitB M L x && fitAllB M L xs
end
end Pv

namespace Pv
open PySem PySem.Spec PyProof.Rows L2
section
variable {X : Cx} {e : Expr}
theorem lit_neg {n : Int} (h : PE X e (tUn (rU fun i => .int (-i)) (tC (.int n)))) : PE X e (tLit X.K (.int (-n))) :=
  pe_mono h fun σ H Q ⟨st, r, _, q⟩ => ⟨n, rfl, q H _ (Same.refl H) (.int _)⟩
theorem lit_a1 (h : PE X e (tDisp [(tC (.str "a"), tC (.int 1))])) : PE X e (tLit X.K (.dict [(.str "a", .int 1)])) :=
  pe_mono h fun σ H Q ⟨st, r, oc, q⟩ => fun p np => ⟨upd_same, [(.inr "a", .int 1)], rfl, by decide, by
    rw [upd_upd]
    exact q _ _ (sameNew np) (.dct (kvs := [(.inr "a", 1)]) (by rw [upd_same]; rfl))⟩
end
section
variable {K : PySem.W.Frag} {H : Hp} {a b : Addr} {xs ys : List V} {Q : VK}
theorem sl_any (hP : SqT K H a xs) (lo hi : Option Int) (h : ∀ (H' : Hp) (b : Addr), Same H H' → SqT K H' b (cutV xs lo hi) → Q (.ref b) H') : rSlA K (.ref a) lo hi H Q := by
  refine ⟨a, _, rfl, hP, fun hw => ?_, fun _ p np => ?_⟩
  · refine h H a (Same.refl _) ?_
    have e : cutV xs lo hi = xs := by
      unfold cutV
      rw [hw.1, hw.2, List.drop_zero, Nat.sub_zero, List.take_length]
    rw [e]; exact hP
  · exact h _ p (sameNew np) (SqT.of upd_same)
theorem cut_ints (xs : List Int) (lo hi : Option Int) : ∃ zs : List Int, cutV (xs.map V.int) lo hi = zs.map V.int ∧ zs.length ≤ xs.length ∧ ∀ z ∈ zs, z ∈ xs := by
  unfold cutV
  generalize HT.sIx (xs.map V.int).length 0 lo = m
  generalize HT.sIx (xs.map V.int).length (xs.map V.int).length hi - m = n
  refine ⟨(xs.drop m).take n, by rw [List.map_take, List.map_drop], ?_, fun z hz => List.mem_of_mem_drop (List.mem_of_mem_take hz)⟩
  rw [List.length_take, List.length_drop]; omega
end
/-! a tuple of ints, of at most L and at most M in size -/
def IT (K : PySem.W.Frag) (H : Hp) (p : Addr) (L M : Nat) : Prop := ∃ xs : List Int, SqT K H p (xs.map V.int) ∧ xs.length ≤ L ∧ ∀ x ∈ xs, x.natAbs ≤ M
section
variable {K : PySem.W.Frag} {H H' : Hp} {a b : Addr} {L L' M M' : Nat} {Q : VK}
theorem IT.tk (h : IT K H a L M) (s : TupK H H') : IT K H' a L M := by obtain ⟨xs, h1, h2⟩ := h; exact ⟨xs, s.sq h1, h2⟩
theorem IT.same (h : IT K H a L M) (s : Same H H') : IT K H' a L M := h.tk (.of s)
theorem IT.mono (h : IT K H a L M) (h1 : L ≤ L') (h2 : M ≤ M') : IT K H a L' M' := by obtain ⟨xs, e, l, m⟩ := h; exact ⟨xs, e, by omega, fun x hx => by have := m x hx; omega⟩
theorem IT.cut (h : IT K H a L M) (lo hi : Option Int) (q : ∀ (H' : Hp) (b : Addr), Same H H' → IT K H' b L M → Q (.ref b) H') : rSlA K (.ref a) lo hi H Q := by
  obtain ⟨xs, e, l, m⟩ := h
  obtain ⟨zs, ez, lz, mz⟩ := cut_ints xs lo hi
  exact sl_any e lo hi fun H' b s hb => q H' b s ⟨zs, by rw [← ez]; exact hb, by omega, fun z hz => m z (mz z hz)⟩
theorem IT.cat (h : IT K H a L M) (h' : IT K H b L' M) (hs : L + L' ≤ 1000000) (q : ∀ (H' : Hp) (p : Addr), Same H H' → IT K H' p (L + L') M → Q (.ref p) H') : rCatA K (.ref a) (.ref b) H Q := by
  obtain ⟨xs, e, l, m⟩ := h
  obtain ⟨ys, e', l', m'⟩ := h'
  refine cat_eq e e' (by rw [List.length_map, List.length_map]; exact small6 (by omega)) fun H' p s hp => q H' p s ⟨xs ++ ys, by rw [List.map_append]; exact hp, by rw [List.length_append]; omega, fun z hz => ?_⟩
  rcases List.mem_append.mp hz with h | h
  · exact m z h
  · exact m' z h
theorem IT.dq {st r : Addr} (h : IT K H a L M) : ∃ xs : List Int, Dq K st r H (.ref a) (dI xs) ∧ xs.length ≤ L ∧ ∀ x ∈ xs, x.natAbs ≤ M := by
  obtain ⟨xs, e, l, m⟩ := h
  exact ⟨xs, .of_dp (to_ints xs) (dI_sq e), l, m⟩
end
/-! a comprehension whose elements are new objects: R tells what they show -/
def LcR {α β : Type} (R : Hp → V → β → Prop) (H1 : Hp) (D : Addr) (zs : List α) (F : α → Option β) (i : Nat) (H : Hp) : Prop := Same H1 H ∧ ∃ vs, H D = some (.lst vs) ∧ Rl (R H) vs ((zs.take i).filterMap F)
section
variable {α β : Type} {R : Hp → V → β → Prop} {H1 H H' : Hp} {D : Addr} {zs : List α} {F : α → Option β} {i : Nat} {x : α} {y : V} {b : β}
theorem LcR.start (nD : H1 D = none) : LcR R H1 D zs F 0 (upd H1 D (.lst [])) := ⟨sameNew nD, [], upd_same, by simpa using Rl.nil⟩
theorem LcR.yes (hR : ∀ H H' v b, TupK H H' → R H v b → R H' v b) (h : LcR R H1 D zs F i H) (nD : H1 D = none) (s : Same H H') (hx : zs[i]? = some x) (hF : F x = some b) (hy : R H' y b) (hi : i ≤ 1000000) : ∃ acc, H' D = some (.lst acc) ∧ acc.length < sizeLine ∧ LcR R H1 D zs F (i + 1) (upd H' D (.lst (acc ++ [y]))) := by
  obtain ⟨s1, vs, e, hv⟩ := h
  have e' := s _ _ e
  refine ⟨vs, e', ?_, samePut (s1.trans s) nD, vs ++ [y], upd_same, ?_⟩
  · have h1 := List.length_filterMap_le F (zs.take i)
    have h2 := List.length_take_le i zs
    rw [hv.1]
    exact small (by omega)
  · have tk : TupK H' (upd H' D (.lst (vs ++ [y]))) := TupK.put e'
    rw [take_snoc hx, List.filterMap_append]
    simp only [List.filterMap_cons, hF, List.filterMap_nil]
    exact Rl.snoc (hv.mono fun v r h => hR _ _ _ _ ((TupK.of s).trans tk) h) (hR _ _ _ _ tk hy)
theorem LcR.no (hR : ∀ H H' v b, TupK H H' → R H v b → R H' v b) (h : LcR R H1 D zs F i H) (s : Same H H') (hx : zs[i]? = some x) (hF : F x = none) : LcR R H1 D zs F (i + 1) H' := by
  obtain ⟨s1, vs, e, hv⟩ := h
  refine ⟨s1.trans s, vs, s _ _ e, ?_⟩
  rw [take_snoc hx, List.filterMap_append]
  simp only [List.filterMap_cons, hF, List.filterMap_nil, List.append_nil]
  exact hv.mono fun v r h => hR _ _ _ _ (.of s) h
theorem LcR.done (h : LcR R H1 D zs F i H) (hi : zs.length ≤ i) : ∃ vs, H D = some (.lst vs) ∧ Rl (R H) vs (zs.filterMap F) := by
  obtain ⟨_, vs, e, hv⟩ := h
  rw [List.take_of_length_le hi] at hv
  exact ⟨vs, e, hv⟩
end
end Pv

set_option maxHeartbeats 1000000
namespace Pv
open PySem PySem.Spec PyProof.Rows L2
theorem TrAt.setPlan {C : Addr} {H : Hp} {x r c p : Addr} {cd pd : List Addr} {t : Tr.T} (h : TrAt C H x r c p cd pd t) {j : Nat} {a : Addr} (ha : pd[j]? = some a) {P P' : Tr.Row} (hP : t.plan[j]? = some P) :
    TrAt C (upd H a (.dK (dk P'))) x r c p cd pd ⟨t.room, t.costs, t.plan.set j P'⟩ := by
  obtain ⟨dx, ob⟩ := h.ob
  have hd := h.pds j a P ha hP
  have ne : ∀ {b o}, H b = some o → (∀ kvs, o ≠ .dK kvs) → b ≠ a := fun e ho z => by rw [z, hd] at e; cases e; exact ho _ rfl
  refine ⟨⟨dx, by rw [upd_ne (ne ob fun _ z => by cases z)]; exact ob⟩, by rw [upd_ne (ne h.rm fun _ z => by cases z)]; exact h.rm, by rw [upd_ne (ne h.cs fun _ z => by cases z)]; exact h.cs, by rw [upd_ne (ne h.pl fun _ z => by cases z)]; exact h.pl, h.lc, by rw [List.length_set]; exact h.lp, fun i b Q e1 e2 => ?_, fun i b Q e1 e2 => ?_, h.nd, h.dj, h.rc, h.rp, h.cp⟩
  · have : b ≠ a := fun z => h.dj a (List.mem_of_getElem? ha) (by rw [← z]; exact List.mem_of_getElem? e1)
    rw [upd_ne this]
    exact h.cds i b Q e1 e2
  · have e2 : (t.plan.set j P')[i]? = some Q := e2
    rw [List.getElem?_set] at e2
    by_cases z : j = i
    · subst z
      rw [ha] at e1; cases e1
      have hj := (List.getElem?_eq_some_iff.mp hP).1
      rw [if_pos rfl, if_pos hj] at e2
      cases e2
      exact upd_same
    · rw [if_neg z] at e2
      have : b ≠ a := fun q => z ((List.getElem?_inj (List.getElem?_eq_some_iff.mp ha).1 h.nd).mp (by rw [ha, e1, q]))
      rw [upd_ne this]
      exact h.pds i b Q e1 e2
theorem TrAt.setRoom {C : Addr} {H : Hp} {x r c p : Addr} {cd pd : List Addr} {t : Tr.T} (h : TrAt C H x r c p cd pd t) (rs : List Int) : TrAt C (upd H r (.lst (rs.map V.int))) x r c p cd pd ⟨rs, t.costs, t.plan⟩ := by
  obtain ⟨dx, ob⟩ := h.ob
  have ne : ∀ {b o}, H b = some o → (∀ vs, o ≠ .lst vs) → b ≠ r := fun e ho z => by rw [z, h.rm] at e; cases e; exact ho _ rfl
  exact ⟨⟨dx, by rw [upd_ne (ne ob fun _ z => by cases z)]; exact ob⟩, upd_same, by rw [upd_ne h.rc.symm]; exact h.cs, by rw [upd_ne h.rp.symm]; exact h.pl, h.lc, h.lp, fun i a Q e1 e2 => by rw [upd_ne (ne (h.cds i a Q e1 e2) fun _ z => by cases z)]; exact h.cds i a Q e1 e2, fun i a P e1 e2 => by rw [upd_ne (ne (h.pds i a P e1 e2) fun _ z => by cases z)]; exact h.pds i a P e1 e2, h.nd, h.dj, h.rc, h.rp, h.cp⟩
theorem way_len {t : Tr.T} {L : Tr.Row} {ℓ : Int} {F : List (Int × Tr.Lb)} (f : Tr.Fin t L ℓ F) {v : Int} {st : List Tr.Step} (h : Tr.Way F v st) : st.length ≤ t.room.length := by
  have := Tr.nodup_range (m := t.room.length) (h.stops f) fun x hx => by
    obtain ⟨y, hy, rfl⟩ := List.mem_map.mp hx
    obtain ⟨l, e, _⟩ := h.each f y hy
    exact f.rng _ l e
  rwa [List.length_map] at this
theorem step_row {t : Tr.T} {L : Tr.Row} {ℓ : Nat} {F : List (Int × Tr.Lb)} (f : Tr.Fin t L ℓ F) {v : Int} {st : List Tr.Step} (h : Tr.Way F v st) : ∀ x ∈ st, ∃ i : Nat, x.1 = (i : Int) := fun x hx => by
  obtain ⟨l, e, q⟩ := h.each f x hx
  cases ex : x.2.1 with
  | none => rw [ex] at q; exact ⟨ℓ, q.1⟩
  | some a =>
    rw [ex] at q
    obtain ⟨_, i, _, _, q1, _⟩ := q
    exact ⟨i, q1⟩
theorem PFr.trans {r : Addr} {pd : List Addr} {H H1 H2 : Hp} (a : PFr r pd H H1) (b : PFr r pd H1 H2) : PFr r pd H H2 := fun x o e n1 n2 => b x o (a x o e n1 n2) n1 n2
theorem PFr.of {r : Addr} {pd : List Addr} {H H1 : Hp} (s : Same H H1) : PFr r pd H H1 := fun x o e _ _ => s x o e
theorem PFr.tup {r : Addr} {pd : List Addr} {H H1 : Hp} (h : PFr r pd H H1) (hr : ∃ xs, H r = some (.lst xs)) (hp : ∀ a ∈ pd, ∃ kvs, H a = some (.dK kvs)) : TupK H H1 := by
  obtain ⟨xs0, hr⟩ := hr
  intro b xs
  refine ⟨fun e => h _ _ e (fun z => by rw [z, hr] at e; cases e) (fun z => ?_), fun u e => h _ _ e (fun z => by rw [z, hr] at e; cases e) (fun z => ?_)⟩
  · obtain ⟨k, q⟩ := hp b z; rw [q] at e; cases e
  · obtain ⟨k, q⟩ := hp b z; rw [q] at e; cases e
theorem TrAt.pdAll {C : Addr} {H : Hp} {x r c p : Addr} {cd pd : List Addr} {t : Tr.T} (h : TrAt C H x r c p cd pd t) : ∀ a ∈ pd, ∃ kvs, H a = some (.dK kvs) := fun a ha => by
  obtain ⟨i, e⟩ := List.getElem?_of_mem ha
  have hi := (List.getElem?_eq_some_iff.mp e).1
  rw [h.lp] at hi
  exact ⟨_, h.pds i a _ e (List.getElem?_eq_getElem hi)⟩
theorem held_snoc (P : List Tr.Row) (st : List Tr.Step) : Tr.held P st = st.filterMap fun x => x.2.1.map fun a => Tr.numAt P x.1.toNat a := rfl
theorem rl_ds {T : Addr → Tri → Prop} : ∀ {vs : List V} {bs : List Tri}, Rl (fun v b => ∃ a, v = V.ref a ∧ T a b) vs bs → ∃ ds : List (Addr × Tri), vs = ds.map (fun d => V.ref d.1) ∧ bs = ds.map (·.2) ∧ ∀ d ∈ ds, T d.1 d.2
  | [], [], _ => ⟨[], rfl, rfl, fun d h => by cases h⟩
  | [], b :: bs, h => by have := h.1; simp at this
  | v :: vs, [], h => by have := h.1; simp at this
  | v :: vs, b :: bs, h => by
    obtain ⟨a, e, t⟩ := h.2 0 v b rfl rfl
    obtain ⟨ds, e1, e2, e3⟩ := rl_ds (vs := vs) (bs := bs) ⟨by have := h.1; simpa using this, fun j x y hx hy => h.2 (j + 1) x y (by simpa using hx) (by simpa using hy)⟩
    refine ⟨(a, b) :: ds, by rw [e, e1]; rfl, by rw [e2]; rfl, fun d hd => ?_⟩
    rcases List.mem_cons.mp hd with z | z
    · rw [z]; exact t
    · exact e3 d z
theorem TriAt.tk {K : PySem.W.Frag} {H H' : Hp} {a : Addr} {x : Tri} (s : TupK H H') (h : TriAt K H a x) : TriAt K H' a x := by
  obtain ⟨b, h1, h2⟩ := h
  exact ⟨b, s.sq h1, s.sq h2⟩
theorem dK_keys {β : Type} (f : β → V) (L : List (Int × β)) : (dkW f L).map (·.1) = (Tr.ks L).map Sum.inl := by
  unfold dkW Tr.ks; rw [List.map_map, List.map_map]; rfl
theorem zeroRow_take {L : Tr.Row} {j : Nat} {e : Int × Int} (h : L[j]? = some e) (nd : (Tr.ks L).Nodup) : Tr.pt (Tr.zeroRow (L.take j)) e.1 0 = Tr.zeroRow (L.take (j + 1)) := by
  have hn : ¬ e.1 ∈ Tr.ks (Tr.zeroRow (L.take j)) := fun hin => by
    rw [Tr.ks_zero] at hin
    obtain ⟨y, hy, ey⟩ := List.mem_map.mp hin
    obtain ⟨i, hi⟩ := List.getElem?_of_mem hy
    rw [List.getElem?_take] at hi
    split at hi
    · rename_i hlt
      have h1 : (Tr.ks L)[i]? = some e.1 := by show (L.map _)[i]? = _; rw [List.getElem?_map, hi]; exact congrArg some ey
      have h2 : (Tr.ks L)[j]? = some e.1 := by show (L.map _)[j]? = _; rw [List.getElem?_map, h]; rfl
      have := (List.getElem?_inj (List.getElem?_eq_some_iff.mp h1).1 nd).mp (h1.trans h2.symm)
      omega
    · cases hi
  rw [pt_new hn, take_snoc h]
  unfold Tr.zeroRow
  rw [List.map_append]; rfl
end Pv

namespace Pv
open PySem PySem.Spec PyProof.Rows L2
abbrev sTP : Stmt := inCls (topS 18) 4
theorem scTP : FnScope ["self", "found", "end", "amount", "steps", "held", "many", "row", "start", "stop", "numbers"] ["self", "found", "end", "amount"] (defScope sTP) := ⟨rfl, rfl, rfl, by decide +kernel, rfl, by decide +kernel, by decide +kernel⟩
section
variable {P : Program} {w : World} {K : PySem.W.Frag} {mg : Str → Option Value} {base : Heap}
set_option maxHeartbeats 8000000 in
theorem ok_TP {f fWT : Addr} {fd fdWT : FuncData} {cT : Addr} (T : TTx K mg cT) (F : Fun K "push" "Transport.push" sTP f fd)
    (FWT : Fun K "way_to" "way_to" sWT fWT fdWT) (bWT : Binds K fdWT ["found", "end"] []) (gWT : mg "way_to" = some (.ref fWT)) (GWT : FnOk P w K mg base CX0 1 fWT fdWT ["found", "end"] (spWT K))
    (m_min : mg "min" = none) :
    FnOk P w K mg base CX0 2 f fd ["self", "found", "end", "amount"] (spTP K cT) := by
  refine F.ok scTP (fun vs H Q E h => ?_) (fun cdv A outer s H vs Q E hr h => ?_)
  · obtain ⟨x, r, c, p, d, cd, pd, t, Lr, ℓ, F, e, am, le, rfl, _⟩ := h; rfl
  · obtain ⟨x, r, c, p, d, cd, pd, t, Lr, ℓ, F, e, am, le, rfl, hT, W, hrl, hpl, hL, hF, hPI, hD, hfree, q⟩ := h
    have hu64 : (A.deeper (envOfC "Transport.push" (defScope sTP) s.heap.objs.size f cdv)).units + 64 < cLine := by have := hr.un; omega
    refine ⟨_, pss_cons (ps_set (i := 4) scTP.nd rfl (.inl rfl) (pe_call GWT (hr.mono (by omega)) (by rfl) gWT FWT.kp bWT .nil pass0 (pa_cons (pv 1) (pa_cons (pv 2) pa_nil))))
      (pss_cons (ps_setLc (i := 5) (own := [("row", 7), ("start", 8), ("stop", 9)]) (g := gTup K 3 (gCons (gName 7) (gCons (gName 8) (gCons (gName 9) gNil)))) (tt := tB (tNotN (tVar 8))) (te := tDGet (tOp (rIxL K) (tFld K (tVar 0) "plan") (tVar 7)) (tVar 8)) rfl scTP.nd rfl rfl (sw_true rfl rfl rfl (by decide +kernel)) (pi_list (pv 4)) (blkOk_by (N := ["self", "found", "end", "amount", "steps", "held", "many", "row", "start", "stop", "numbers"]) (sc := defScope sTP) (by decide +kernel)) (fun _ _ _ _ _ => pg_tup rfl (pgs_cons (pg_name (i := 7) scTP.nd rfl (.inl rfl)) (pgs_cons (pg_name (i := 8) scTP.nd rfl (.inl rfl)) (pgs_cons (pg_name (i := 9) scTP.nd rfl (.inl rfl)) pgs_nil)))) (fun _ _ _ _ _ => pts_one (pt_cmp (pc_notN (pv 8)))) (fun _ _ _ _ _ => pe_dget (Nat.lt_of_le_of_lt (Nat.add_le_add_left (by decide) _) hu64) (pe_ix ix_list (pe_fld (pv 0) rfl) (pv 7) (fun _ _ => rfl)) (pv 8) (fun _ _ => rfl)))
      (pss_cons (ps_set (i := 6) scTP.nd rfl (.inl rfl) (pe_callB (cr_min rfl) (by rfl) m_min (by decide +kernel) (pa_cons (pe_op op_cat (pe_lst (pa_cons (pv 3) (pa_cons (pe_ix ix_list (pe_fld (pv 0) rfl) (pv 2) (fun _ _ => rfl)) pa_nil))) (pv 5)) pa_nil)))
      (pss_cons (ps_for PassesOwn.never rfl (pi_list (pv 4)) (pg_tup rfl (pgs_cons (pg_name (i := 7) scTP.nd rfl (.inl rfl)) (pgs_cons (pg_name (i := 8) scTP.nd rfl (.inl rfl)) (pgs_cons (pg_name (i := 9) scTP.nd rfl (.inl rfl)) pgs_nil))))
        (pss_cons (ps_set (i := 10) scTP.nd rfl (.inl rfl) (pe_ix ix_list (pe_fld (pv 0) rfl) (pv 7) (fun _ _ => rfl)))
        (pss_cons (ps_daug (Nat.lt_of_le_of_lt (Nat.add_le_add_left (by decide) _) hu64) (pv 10) (pv 9) (pv 6) in_add (fun _ _ _ => rfl))
        (pss_one (ps_if (pt_cmp (pc_notN (pv 8)))
          (pss_one (ps_daug (Nat.lt_of_le_of_lt (Nat.add_le_add_left (by decide) _) hu64) (pv 10) (pv 8) (pv 6) in_sub (fun _ _ _ => rfl))) pss_nil)))))
      (pss_cons (ps_augS (pe_fld (pv 0) rfl) (pv 2) get_list (pv 6) ip_sub set_list)
      (pss_one (ps_ret (pv 6))))))), ?_⟩
    obtain ⟨dx, ob⟩ := hT.ob
    have hw := Tr.way_is hF hPI.fe
    have wl := way_len hF hw
    have he := hF.rng e le hPI.fe
    have wrow := step_row hF hw
    have wst := Tr.way_in W hL hF hw
    have two : (2 : Nat) ≤ sizeLine := by decide
    refine ⟨.ref d, rfl, .int e, rfl, d, e, F, Tr.way F e, rfl, hD, hw, by omega, fun H1 ls as s1 nls els hS => ?_⟩
    generalize hst : Tr.way F e = st at hw wl wrow wst hS
    -- what is held
    refine ⟨.ref ls, rfl, ls, rfl, ⟨_, SqL.of els⟩, fun D nD => lc_it (walk_list (K := K) (a := ls) (xs := as.map V.ref)) (LcP H1 D st (fun x => x.2.1.map fun a => V.int (Tr.numAt t.plan x.1.toNat a))) (.start nD) (fun m Hm _ h => SqL.of (h.1 _ _ els)) ?_ ?_⟩
    · rintro i y Hz Hc hi hP ⟨rfl, hy⟩
      have hy : (as.map V.ref)[i]? = some y := hy
      rw [List.getElem?_map] at hy
      obtain ⟨ba, hba, rfl⟩ := Option.map_eq_some_iff.mp hy
      have hil : i < st.length := by rw [← hS.1]; exact (List.getElem?_eq_some_iff.mp hba).1
      have hx : st[i]? = some st[i] := List.getElem?_eq_getElem hil
      generalize st[i] = sx at hx
      obtain ⟨rw', sa, stp⟩ := sx
      have hmem := List.mem_of_getElem? hx
      obtain ⟨ri, hri⟩ := wrow _ hmem
      have hri : rw' = (ri : Int) := hri
      subst hri
      have hsq := (TupK.of hP.1).sq (hS.2 i ba _ hba hx)
      refine ⟨ba, _, rfl, hsq, rfl, _, _, rfl, _, _, rfl, _, _, rfl, rfl, rfl, ?_⟩
      refine ⟨_, rfl, _, rfl, ?_⟩
      cases sa with
      | none =>
        refine iteF ?_
        exact hP.no (Same.refl _) hx rfl
      | some a =>
        refine iteT ?_
        have sin := wst _ hmem
        have hrp : ri < t.plan.length := sin.1
        have eP : t.plan[ri]? = some t.plan[ri] := List.getElem?_eq_getElem hrp
        obtain ⟨pa, hpa, hPd⟩ := hT.pd eP
        have hak := (sin.2 _ eP).2.2 a rfl
        obtain ⟨va, hva⟩ := Tr.gv_of_ks hak
        have sc := s1.trans hP.1
        refine ⟨.ref x, rfl, x, cT, dx, _, _, rfl, sc _ _ ob, T.cl, T.nP, fT_plan _ _ _, .int (ri : Int), rfl, p, _, _, .ref pa, rfl, rfl, SqL.of (sc _ _ hT.pl), atI_nat (j := ri) (by rw [List.getElem?_map, hpa]; rfl), .int a, rfl, pa, _, rfl, DGet.dkW V.int (.inl (sc _ _ hPd)) hva, ?_⟩
        refine hP.yes nD (Same.refl _) hx ?_ (by omega)
        show some (V.int (Tr.numAt t.plan ri a)) = _
        rw [Tr.numAt_of eP, num_gv hva]
    rintro H2 hP
    have eH := hP.done (by rw [List.length_map, hS.1]; exact Nat.le_refl _)
    have eheld : st.filterMap (fun x => x.2.1.map fun a => V.int (Tr.numAt t.plan x.1.toNat a)) = (Tr.held t.plan st).map V.int := by
      unfold Tr.held
      rw [List.map_filterMap]
      congr 1
      funext x
      cases x.2.1 <;> rfl
    rw [eheld] at eH
    have s2 := s1.trans hP.1
    have hls2 := hP.1 _ _ els
    have hS2 : StL K H2 as st := ⟨hS.1, fun i a x e1 e2 => (TupK.of hP.1).sq (hS.2 i a x e1 e2)⟩
    have nD2 : H D = none := s1.free nD
    have hhl : (Tr.held t.plan st).length ≤ 7 := Nat.le_trans (List.length_filterMap_le _ _) (by omega)
    clear hP eheld
    -- many
    refine ⟨.int am, rfl, .ref x, rfl, x, cT, dx, _, _, rfl, s2 _ _ ob, T.cl, T.nR, fT_room _ _ _, .int e, rfl, r, _, _, .int (Tr.rm t e), rfl, rfl, SqL.of (s2 _ _ hT.rm), atI_int he.1 (rm_at he), two, fun p1 np1 => ?_⟩
    have s3 := sameNew (o := .lst [.int am, .int (Tr.rm t e)]) np1
    refine ⟨.ref D, rfl, p1, D, [.int am, .int (Tr.rm t e)], (Tr.held t.plan st).map V.int, rfl, rfl, upd_same, s3 _ _ eH, by rw [List.length_map]; exact Nat.le_of_lt (small (by simp only [List.length_cons, List.length_nil]; omega)), fun p2 np2 => ?_⟩
    have s4 := s3.trans (sameNew (o := .lst ([.int am, .int (Tr.rm t e)] ++ (Tr.held t.plan st).map V.int)) np2)
    refine ⟨p2, am :: Tr.rm t e :: Tr.held t.plan st, rfl, SqL.of (by rw [upd_same]; rfl), by simp, fun m hm hle => ?_⟩
    have em : m = Tr.many t F e am := by unfold Tr.many; rw [hst]; exact Tr.lmin_eq hm hle
    subst em
    have s24 := s2.trans s4
    have hls4 := s4 _ _ hls2
    have hS4 : ∀ (i : Nat) (a : Addr) (x : Tr.Step), as[i]? = some a → st[i]? = some x → SqT K (upd (upd H2 p1 (.lst [.int am, .int (Tr.rm t e)])) p2 (.lst ([.int am, .int (Tr.rm t e)] ++ (Tr.held t.plan st).map V.int))) a [.int x.1, stV x.2.1, .int x.2.2] := fun i a x e1 e2 => (TupK.of s4).sq (hS2.2 i a x e1 e2)
    have nlr : ls ≠ r := fun z => by rw [z, hT.rm] at nls; cases nls
    have nlp : ¬ ls ∈ pd := hfree ls nls
    generalize hm : Tr.many t F e am = M
    generalize upd (upd H2 p1 (.lst [.int am, .int (Tr.rm t e)])) p2 (.lst ([.int am, .int (Tr.rm t e)] ++ (Tr.held t.plan st).map V.int)) = H4 at s24 hls4 hS4 ⊢
    have hT4 := hT.same s24
    have tup4 : ∀ {H'}, PFr r pd H4 H' → TupK H4 H' := fun h => h.tup ⟨_, hT4.rm⟩ hT4.pdAll
    refine ⟨.ref ls, rfl, ls, rfl, ⟨_, SqL.of hls4⟩, for_it (walk_list (K := K) (a := ls) (xs := as.map V.ref))
      (fun i σ Hc => ∃ (y7 y8 y9 y10 : Option V), σ = [some (.ref x), some (.ref d), some (.int e), some (.int am), some (.ref ls), some (.ref D), some (.int M), y7, y8, y9, y10] ∧ PFr r pd H4 Hc ∧ TrAt cT Hc x r c p cd pd ⟨t.room, t.costs, Tr.pushAll M t.plan (st.take i)⟩)
      ⟨_, _, _, _, rfl, .of (Same.refl _), hT4⟩ (fun i σ Hc _ h => by obtain ⟨_, _, _, _, _, h, _⟩ := h; exact SqL.of (h _ _ hls4 nlr nlp)) ?_ ?_⟩
    · rintro i y σ Hz Hc hi ⟨y7, y8, y9, y10, rfl, fr, hTc⟩ ⟨rfl, hy⟩
      have hy : (as.map V.ref)[i]? = some y := hy
      rw [List.getElem?_map] at hy
      obtain ⟨ba, hba, rfl⟩ := Option.map_eq_some_iff.mp hy
      have hil : i < st.length := by rw [← hS.1]; exact (List.getElem?_eq_some_iff.mp hba).1
      have hx : st[i]? = some st[i] := List.getElem?_eq_getElem hil
      generalize st[i] = sx at hx
      obtain ⟨rw', sa, stp⟩ := sx
      have hmem := List.mem_of_getElem? hx
      obtain ⟨ri, hri⟩ := wrow _ hmem
      have hri : rw' = (ri : Int) := hri
      subst hri
      have hsq := (tup4 fr).sq (hS4 i ba _ hba hx)
      have sinT : ∀ y ∈ st.take i, Tr.StIn t.plan y := fun y hy => wst y (List.mem_of_mem_take hy)
      obtain ⟨kl, kk⟩ := Tr.pushAll_keep (d := M) sinT
      have sin := (wst _ hmem).keep kl kk
      have eN : Tr.pushAll M t.plan (st.take (i + 1)) = Tr.pushOne M (Tr.pushAll M t.plan (st.take i)) ((ri : Int), sa, stp) := by
        unfold Tr.pushAll
        rw [take_snoc hx, List.foldl_append]; rfl
      have hkey : ∀ (R0 : Tr.Row), (Tr.pushAll M t.plan (st.take i))[ri]? = some R0 → ∀ k ∈ Tr.ks R0, 0 ≤ k ∧ k < t.room.length := fun R0 e0 k hk => by
        have := kk ri
        rw [e0] at this
        obtain ⟨R1, e1, q1⟩ := Option.map_eq_some_iff.mp this.symm
        have hi2 : ri < t.costs.length := by rw [← W.len]; exact (List.getElem?_eq_some_iff.mp e1).1
        rw [← q1, W.key ri R1 _ e1 (List.getElem?_eq_getElem hi2)] at hk
        exact W.rng _ (List.getElem_mem hi2) k hk
      rw [eN]
      generalize Tr.pushAll M t.plan (st.take i) = Pi at hTc sin hkey
      have hrp : ri < Pi.length := sin.1
      have eP : Pi[ri]? = some Pi[ri] := List.getElem?_eq_getElem hrp
      generalize Pi[ri] = R0 at eP
      obtain ⟨nd0, hk0, ha0⟩ := sin.2 R0 eP
      have hk0 : stp ∈ Tr.ks R0 := hk0
      have ha0 : ∀ a, sa = some a → a ∈ Tr.ks R0 := ha0
      obtain ⟨pa, hpa, hPd⟩ := hTc.pd (t := ⟨t.room, t.costs, Pi⟩) eP
      obtain ⟨vs, hvs⟩ := Tr.gv_of_ks hk0
      obtain ⟨dx3, ob3⟩ := hTc.ob
      have szR : R0.length ≤ 7 := by
        have := Tr.nodup_range (m := t.room.length) nd0 (hkey R0 eP)
        simp only [Tr.ks, List.length_map] at this
        omega
      refine ⟨ba, _, rfl, hsq, rfl, _, _, rfl, _, _, rfl, _, _, rfl, rfl, ?_⟩
      refine ⟨.ref x, rfl, x, cT, dx3, _, _, rfl, ob3, T.cl, T.nP, fT_plan _ _ _, .int (ri : Int), rfl, p, _, _, .ref pa, rfl, rfl, SqL.of hTc.pl, atI_nat (j := ri) (by rw [List.getElem?_map, hpa]; rfl), ?_⟩
      refine ⟨.ref pa, rfl, .int stp, rfl, pa, _, rfl, DGet.dkW V.int (.inl hPd) hvs, .int M, rfl, _, _, rfl, rfl, _, DPut.dkW V.int nd0 hPd (small (by omega)) stp (vs + M), ?_⟩
      have hT1 := hTc.setPlan hpa eP (P' := Tr.pt R0 stp (vs + M))
      have hPd1 : upd Hc pa (.dK (dk (Tr.pt R0 stp (vs + M)))) pa = some (.dK (dk (Tr.pt R0 stp (vs + M)))) := upd_same
      have fr1 : PFr r pd H4 (upd Hc pa (.dK (dk (Tr.pt R0 stp (vs + M))))) := fun b o e n1 n2 => by
        rw [upd_ne (fun z => n2 (by rw [z]; exact List.mem_of_getElem? hpa))]; exact fr b o e n1 n2
      have eA1 : Tr.addN Pi ri stp M = Pi.set ri (Tr.pt R0 stp (vs + M)) := by unfold Tr.addN; rw [eP]; simp only [num_gv hvs]
      refine ⟨_, rfl, _, rfl, ?_⟩
      cases sa with
      | none =>
        refine iteF ?_
        refine ⟨_, _, _, _, rfl, fr1, ?_⟩
        show TrAt cT _ x r c p cd pd ⟨t.room, t.costs, Tr.addN Pi ri stp M⟩
        rw [eA1]
        exact hT1
      | some a =>
        refine iteT ?_
        have ha1 : a ∈ Tr.ks (Tr.pt R0 stp (vs + M)) := by rw [Tr.ks_pt, if_pos hk0]; exact ha0 a rfl
        obtain ⟨va, hva⟩ := Tr.gv_of_ks ha1
        have eP1 : (Pi.set ri (Tr.pt R0 stp (vs + M)))[ri]? = some (Tr.pt R0 stp (vs + M)) := by rw [List.getElem?_set, if_pos rfl, if_pos hrp]
        have nd1 := Tr.nd_pt stp (vs + M) nd0
        have sz1 := pt_len R0 stp (vs + M)
        refine ⟨.ref pa, rfl, .int a, rfl, pa, _, rfl, DGet.dkW V.int (.inl hPd1) hva, .int M, rfl, _, _, rfl, rfl, _, DPut.dkW V.int nd1 hPd1 (small (by omega)) a (va - M), ?_⟩
        have hT2 := hT1.setPlan hpa eP1 (P' := Tr.pt (Tr.pt R0 stp (vs + M)) a (va - M))
        refine ⟨_, _, _, _, rfl, fun b o e n1 n2 => by rw [upd_ne (fun z => n2 (by rw [z]; exact List.mem_of_getElem? hpa))]; exact fr1 b o e n1 n2, ?_⟩
        show TrAt cT _ x r c p cd pd ⟨t.room, t.costs, Tr.addN (Tr.addN Pi ri stp M) ri a (-M)⟩
        have eA2 : Tr.addN (Tr.addN Pi ri stp M) ri a (-M) = (Pi.set ri (Tr.pt R0 stp (vs + M))).set ri (Tr.pt (Tr.pt R0 stp (vs + M)) a (va - M)) := by
          rw [eA1]; unfold Tr.addN; rw [eP1]; simp only [num_gv hva]; rfl
        rw [eA2]
        exact hT2
    · rintro σ Hc ⟨y7, y8, y9, y10, rfl, fr, hTc⟩
      have el : st.take (as.map V.ref).length = st := List.take_of_length_le (by rw [List.length_map, hS.1]; exact Nat.le_refl _)
      rw [el] at hTc
      obtain ⟨en, hen⟩ : ∃ n : Nat, e = (n : Int) := ⟨e.toNat, by omega⟩
      have hrmE : (t.room.map V.int)[en]? = some (V.int (Tr.rm t e)) := by have := rm_at he; rw [show e.toNat = en by omega] at this; exact this
      obtain ⟨dx3, ob3⟩ := hTc.ob
      refine ⟨.ref x, rfl, x, cT, dx3, _, _, rfl, ob3, T.cl, T.nR, fT_room _ _ _, .int e, rfl, r, _, en, .int (Tr.rm t e), rfl, by rw [hen], SqL.of hTc.rm, hrmE, .int M, rfl, _, _, rfl, rfl, r, _, _, en, rfl, rfl, hTc.rm, by rw [hen]; exact ixN_nat (by rw [List.length_map]; show en < t.room.length; omega), ?_⟩
      refine ⟨_, rfl, ?_⟩
      have eset : (t.room.map V.int).set en (V.int (Tr.rm t e - M)) = (t.room.set en (Tr.rm t e - M)).map V.int := by rw [List.map_set]
      have hTf : TrAt cT (upd Hc r (.lst ((t.room.set en (Tr.rm t e - M)).map V.int))) x r c p cd pd (Tr.pushT t e M st) := by
        have := hTc.setRoom (t.room.set en (Tr.rm t e - M))
        unfold Tr.pushT
        rw [show e.toNat = en by omega]
        exact this
      rw [hm, hst] at q
      rw [eset]
      exact q _ (fun b o eb n1 n2 => by rw [upd_ne n1]; exact fr b o (s24 _ _ eb) n1 n2) hTf
end
end Pv

namespace Pv
open PySem PySem.Spec PyProof.Rows L2
abbrev sTA : Stmt := inCls (topS 18) 1
theorem scTA : FnScope ["self", "amount", "costs", "found", "ends", "column"] ["self", "amount", "costs"] (defScope sTA) := ⟨rfl, rfl, rfl, by decide +kernel, rfl, by decide +kernel, by decide +kernel⟩
section
variable {P : Program} {w : World} {K : PySem.W.Frag} {mg : Str → Option Value} {base : Heap}
set_option maxHeartbeats 8000000 in
theorem ok_TA {f fTS fTP : Addr} {fd fdTS fdTP : FuncData} {cT : Addr} (T : TTx K mg cT) (F : Fun K "add_row" "Transport.add_row" sTA f fd)
    (FTS : Fun K "search_columns" "Transport.search_columns" sTS fTS fdTS) (bTS : Binds K fdTS ["self"] []) (mTS : Meth K cT "search_columns" fTS) (GTS : FnOk P w K mg base CX0 2 fTS fdTS ["self"] (spTS K cT))
    (FTP : Fun K "push" "Transport.push" sTP fTP fdTP) (bTP : Binds K fdTP ["self", "found", "end", "amount"] []) (mTP : Meth K cT "push" fTP) (GTP : FnOk P w K mg base CX0 2 fTP fdTP ["self", "found", "end", "amount"] (spTP K cT))
    (m_dict : mg "dict" = none) (m_len : mg "len" = none) (m_sorted : mg "sorted" = none) (m_min : mg "min" = none) :
    FnOk P w K mg base CX0 3 f fd ["self", "amount", "costs"] (spTA cT) := by
  refine F.ok scTA (fun vs H Q E h => ?_) (fun cdv A outer s H vs Q E hr h => ?_)
  · obtain ⟨x, r, c, p, d, cd, pd, t, Lr, am, pt, rfl, _⟩ := h; rfl
  · obtain ⟨x, r, c, p, d, cd, pd, t, Lr, am, pt, rfl, hT, W, hrl, hpl, hp, hd, hnL, hrL, hdp, q⟩ := h
    have hu64 : (A.deeper (envOfC "Transport.add_row" (defScope sTA) s.heap.objs.size f cdv)).units + 64 < cLine := by have := hr.un; omega
    refine ⟨_, pss_cons (ps_expr (pe_bm PySem.F.plainAttrs_list PySem.F.slot_list_append PySem.F.type_list_append mt_append (pe_fld (pv 0) rfl) (pa_cons (pe_callTy call_dictD (by rfl) m_dict (by decide +kernel) (pa_cons (pv 2) pa_nil)) pa_nil)))
      (pss_cons (ps_expr (pe_bm PySem.F.plainAttrs_list PySem.F.slot_list_append PySem.F.type_list_append mt_append (pe_fld (pv 0) rfl) (pa_cons (pe_lock (pe_dc (own := [("column", 5)]) (g := gName 5) (tt := tYes) (tk := tVar 5) (tv := tC (.int 0)) rfl scTA.nd (pi_keys (pv 2)) (blkOk_by (N := ["self", "amount", "costs", "found", "ends", "column"]) (sc := defScope sTA) (by decide +kernel)) (fun _ _ _ _ _ => pg_name (i := 5) scTA.nd rfl (.inl rfl)) (fun _ _ _ _ _ => pts_nil) (fun _ _ _ _ _ => pv 5) (fun _ _ _ _ _ => pe_int))) pa_nil)))
      (pss_cons (ps_while PassesOwn.never (pt_cmpR op_gt (pv 1) (pe_int) (nomark _))
        (pss_cons (ps_set (i := 3) scTA.nd rfl (.inr rfl) (pe_meth0 (pv 0) T.cl mTS GTS (hr.mono (by omega)) bTS .nil pass0))
        (pss_cons (ps_setLc (i := 4) (own := [("column", 5)]) (g := gName 5) (tt := tTest (tOp (rI0 fun i j => .bl (decide (j < i))) (tOp (rIxL K) (tFld K (tVar 0) "room") (tVar 5)) (tC (.int 0)))) (te := tTup (tCons (tSl (rSlA K) (tDGet (tVar 3) (tVar 5)) tNoPart (tPart (tC (.int 2)))) (tCons (tVar 5) tNil))) rfl scTA.nd rfl rfl (sw_true rfl rfl rfl (by decide +kernel)) (pi_keys (pe_frz (pv 3))) (blkOk_by (N := ["self", "amount", "costs", "found", "ends", "column"]) (sc := defScope sTA) (by decide +kernel)) (fun _ _ _ _ _ => pg_name (i := 5) scTA.nd rfl (.inl rfl)) (fun _ _ _ _ _ => pts_one (pt_cmpR op_gt (pe_ix ix_list (pe_fld (pv 0) rfl) (pv 5) (fun _ _ => rfl)) (pe_int) (nomark _))) (fun _ _ _ _ _ => pe_tup (pa_cons (pe_slice sl_tupA (pe_dget (Nat.lt_of_le_of_lt (Nat.add_le_add_left (by decide) _) hu64) (pv 3) (pv 5) (fun _ _ => rfl)) po_none (po_some (pe_int))) (pa_cons (pv 5) pa_nil))))
        (pss_cons (ps_if (pt_cmpR op_eq (pe_callB call_lenQ (by rfl) m_len PySem.boot_len (pa_cons (pv 4) pa_nil)) (pe_int) (nomark _))
          (pss_one (ps_ret (pe_callB (call_sortedDI rfl) (by rfl) m_sorted (by decide +kernel) (pa_cons (pv 3) pa_nil)))) pss_nil)
        (pss_one (ps_aug (i := 1) scTA.nd rfl (.inl rfl) (pe_meth (pv 0) T.cl mTP GTP (hr.mono (by omega)) bTP .nil pass0 (pa_cons (pv 3) (pa_cons (pe_ix ix_tup (pe_callB (call_minP rfl hu64) (by rfl) m_min (by decide +kernel) (pa_cons (pv 4) pa_nil)) (pe_int) (fun _ _ => rfl)) (pa_cons (pv 1) pa_nil)))) ip_sub))))))
      (pss_one (ps_ret (pe_non))))), ?_⟩
    obtain ⟨dx, ob⟩ := hT.ob
    have szL : Lr.length ≤ 7 := by
      have := Tr.nodup_range (m := t.room.length) hnL hrL
      simp only [Tr.ks, List.length_map] at this
      omega
    have hlc := hT.lc
    have hlp := hT.lp
    have hWl := W.len
    -- self.costs.append(dict(costs))
    refine ⟨.ref x, rfl, x, cT, dx, _, _, rfl, ob, T.cl, T.nC, fT_costs _ _ _, .inl ⟨rfl, _, SqL.of hT.cs⟩, .ref d, rfl, d, _, rfl, .inl hd, fun q1 nq1 => ?_⟩
    have s1 := sameNew (o := .dK (dk Lr)) nq1
    refine ⟨c, _, _, rfl, rfl, s1 _ _ hT.cs, by rw [List.length_map]; exact small (by omega), ?_⟩
    have ncq : c ≠ q1 := ne_of_none hT.cs nq1
    have f1 : ∀ b o, H b = some o → b ≠ c → upd (upd H q1 (.dK (dk Lr))) c (.lst (cd.map V.ref ++ [.ref q1])) b = some o := fun b o e nb => by rw [upd_ne nb]; exact s1 _ _ e
    have eq1 : upd (upd H q1 (.dK (dk Lr))) c (.lst (cd.map V.ref ++ [.ref q1])) q1 = some (.dK (dk Lr)) := by rw [upd_ne ncq.symm, upd_same]
    have ec1 : upd (upd H q1 (.dK (dk Lr))) c (.lst (cd.map V.ref ++ [.ref q1])) c = some (.lst (cd.map V.ref ++ [.ref q1])) := upd_same
    have nn1 : ∀ b, upd (upd H q1 (.dK (dk Lr))) c (.lst (cd.map V.ref ++ [.ref q1])) b = none → H b = none := fun b e => by
      have nbc : b ≠ c := fun z => by rw [z, ec1] at e; cases e
      have nbq : b ≠ q1 := fun z => by rw [z, eq1] at e; cases e
      rwa [upd_ne nbc, upd_ne nbq] at e
    generalize upd (upd H q1 (.dK (dk Lr))) c (.lst (cd.map V.ref ++ [.ref q1])) = H1 at f1 eq1 ec1 nn1 ⊢
    have ndc : d ≠ c := fun z => by rw [z, hT.cs] at hd; cases hd
    have ndp : d ≠ p := fun z => by rw [z, hT.pl] at hd; cases hd
    have nxc : x ≠ c := fun z => by rw [z, hT.cs] at ob; cases ob
    have nxd : x ≠ d := fun z => by rw [z, hd] at ob; cases ob
    have hd1 := f1 d _ hd ndc
    have ob1 := f1 x _ ob nxc
    have pl1 := f1 p _ hT.pl hT.cp.symm
    -- self.plan.append({column: 0 ..})
    refine ⟨.ref x, rfl, x, cT, dx, _, _, rfl, ob1, T.cl, T.nP, fT_plan _ _ _, .inl ⟨rfl, _, SqL.of pl1⟩, d, _, hd1, trivial, fun od => ⟨.ref d, rfl, d, od, rfl, .inl ⟨_, upd_same, fun D nD => ?_⟩⟩⟩
    have nDd : d ≠ D := ne_of_none (by rw [upd_same]) nD
    have nD1 : H1 D = none := by rwa [upd_ne nDd.symm] at nD
    refine dc_it walk_keys (fun j Hc => (∀ b o, H1 b = some o → b ≠ d → Hc b = some o) ∧ Hc d = some (.frz od (.dK (dk Lr))) ∧ Hc D = some (.dK (dk (Tr.zeroRow (Lr.take j)))))
      ⟨fun b o e nb => by rw [upd_ne (ne_of_none e nD1), upd_ne nb]; exact e, by rw [upd_ne nDd, upd_same], by rw [upd_same]; rfl⟩ (fun j Hc _ h => h.2.1) ?_ ?_
    · rintro j y Hz Hc hj ⟨fr, eC, eD⟩ ⟨rfl, k, v, hkv, rfl⟩
      rw [dkW_get] at hkv
      obtain ⟨en, hen, ekv⟩ := Option.map_eq_some_iff.mp hkv
      cases ekv
      refine ⟨rfl, .int en.1, rfl, ?_⟩
      refine ⟨_, Sum.inl en.1, rfl, eD, by rw [dkW_len]; unfold Tr.zeroRow; rw [List.length_map, List.length_take]; exact small (by omega), fun b o e nb => by rw [upd_ne (ne_of_none e nD1)]; exact fr b o e nb, by rw [upd_ne nDd]; exact eC, ?_⟩
      have ndz : (Tr.ks (Tr.zeroRow (Lr.take j))).Nodup := by
        rw [Tr.ks_zero]
        have : Tr.ks (Lr.take j) = (Tr.ks Lr).take j := List.map_take
        rw [this]
        exact hnL.sublist (List.take_sublist _ _)
      have e1 : putK (dk (Tr.zeroRow (Lr.take j))) (Sum.inl en.1 : L2.Key) (V.int 0) = dk (Tr.pt (Tr.zeroRow (Lr.take j)) en.1 0) := putK_dkW V.int ndz en.1 0
      rw [upd_same, e1, zeroRow_take hen hnL]
    · rintro Hc ⟨fr, eC, eD⟩
      have el : Lr.take (dk Lr).length = Lr := List.take_of_length_le (by rw [dkW_len]; exact Nat.le_refl _)
      rw [el] at eD
      have sN : Same H1 (upd Hc d (.dK (dk Lr))) := fun b o e => by
        by_cases z : b = d
        · subst z; rw [upd_same, ← e, hd1]
        · rw [upd_ne z]; exact fr b o e z
      have eD2 : upd Hc d (.dK (dk Lr)) D = some (.dK (dk (Tr.zeroRow Lr))) := by rw [upd_ne nDd.symm]; exact eD
      refine ⟨eC, ?_⟩
      generalize upd Hc d (.dK (dk Lr)) = H2 at sN eD2 ⊢
      refine ⟨p, _, _, rfl, rfl, sN _ _ pl1, by rw [List.length_map]; exact small (by omega), ?_⟩
      have npD : p ≠ D := ne_of_none pl1 nD1
      have nHD := nn1 D nD1
      have fA : ∀ b o, H b = some o → b ≠ c → b ≠ p → upd H2 p (.lst (pd.map V.ref ++ [.ref D])) b = some o := fun b o e n1 n2 => by rw [upd_ne n2]; exact sN _ _ (f1 b o e n1)
      have nonl : ∀ {b o}, H b = some o → (∀ vs, o ≠ .lst vs) → b ≠ c ∧ b ≠ p := fun e ho => ⟨fun z => by rw [z, hT.cs] at e; cases e; exact ho _ rfl, fun z => by rw [z, hT.pl] at e; cases e; exact ho _ rfl⟩
      have hqD : q1 ≠ D := fun z => by rw [z] at eq1; rw [nD1] at eq1; cases eq1
      have hTA : TrAt cT (upd H2 p (.lst (pd.map V.ref ++ [.ref D]))) x r c p (cd ++ [q1]) (pd ++ [D]) (Tr.newRow t Lr) := by
        refine ⟨⟨dx, ?_⟩, ?_, ?_, ?_, ?_, ?_, fun i a Q e1 e2 => ?_, fun i a P e1 e2 => ?_, ?_, fun a ha hc => ?_, hT.rc, hT.rp, hT.cp⟩
        · obtain ⟨n1, n2⟩ := nonl ob fun _ z => by cases z
          exact fA _ _ ob n1 n2
        · exact fA _ _ hT.rm hT.rc hT.rp
        · rw [upd_ne hT.cp, List.map_append]; exact sN _ _ ec1
        · rw [upd_same, List.map_append]; rfl
        · show _ = (t.costs ++ [Lr]).length
          rw [List.length_append, List.length_append, hT.lc]; rfl
        · show _ = (t.plan ++ [_]).length
          rw [List.length_append, List.length_append, hT.lp]; rfl
        · have e2 : (t.costs ++ [Lr])[i]? = some Q := e2
          rw [List.getElem?_append] at e1 e2
          by_cases hi : i < cd.length
          · rw [if_pos hi] at e1
            rw [if_pos (by rw [← hT.lc]; exact hi)] at e2
            have h0 := hT.cds i a Q e1 e2
            obtain ⟨n1, n2⟩ := nonl h0 fun _ z => by cases z
            exact fA _ _ h0 n1 n2
          · rw [if_neg hi] at e1
            rw [if_neg (by rw [← hT.lc]; exact hi), ← hT.lc] at e2
            cases hz : i - cd.length with
            | zero =>
              rw [hz] at e1 e2
              have e1 : q1 = a := by simpa using e1
              have e2 : Lr = Q := by simpa using e2
              subst e1 e2
              rw [upd_ne (fun z => by rw [z, pl1] at eq1; cases eq1)]
              exact sN _ _ eq1
            | succ k => rw [hz] at e1; simp at e1
        · have e2 : (t.plan ++ [Tr.zeroRow Lr])[i]? = some P := e2
          rw [List.getElem?_append] at e1 e2
          by_cases hi : i < pd.length
          · rw [if_pos hi] at e1
            rw [if_pos (by rw [← hT.lp]; exact hi)] at e2
            have h0 := hT.pds i a P e1 e2
            obtain ⟨n1, n2⟩ := nonl h0 fun _ z => by cases z
            exact fA _ _ h0 n1 n2
          · rw [if_neg hi] at e1
            rw [if_neg (by rw [← hT.lp]; exact hi), ← hT.lp] at e2
            cases hz : i - pd.length with
            | zero =>
              rw [hz] at e1 e2
              have e1 : D = a := by simpa using e1
              have e2 : Tr.zeroRow Lr = P := by simpa using e2
              subst e1 e2
              rw [upd_ne npD.symm]
              exact eD2
            | succ k => rw [hz] at e1; simp at e1
        · exact List.nodup_append.mpr ⟨hT.nd, List.nodup_cons.mpr ⟨by simp, List.nodup_nil⟩, fun a ha b hb e => by
            have : b = D := by simpa using hb
            subst this e
            obtain ⟨k, q⟩ := hT.pdAll a ha
            rw [nHD] at q; cases q⟩
        · have cdA : ∀ b ∈ cd, H b ≠ none := fun b hb z => by
            obtain ⟨i, e⟩ := List.getElem?_of_mem hb
            have hi := (List.getElem?_eq_some_iff.mp e).1
            rw [hT.lc] at hi
            have := hT.cds i b _ e (List.getElem?_eq_getElem hi)
            rw [z] at this; cases this
          rcases List.mem_append.mp ha with h1 | h1
          · rcases List.mem_append.mp hc with h2 | h2
            · exact hT.dj a h1 h2
            · have : a = q1 := by simpa using h2
              subst this
              obtain ⟨k, q⟩ := hT.pdAll a h1
              rw [nq1] at q; cases q
          · have : a = D := by simpa using h1
            subst this
            rcases List.mem_append.mp hc with h2 | h2
            · exact cdA a h2 nHD
            · have h2 : a = q1 := by simpa using h2
              exact hqD h2.symm
      have hA0 : AFr r c p pd H (upd H2 p (.lst (pd.map V.ref ++ [.ref D]))) := fun b o e _ n2 n3 _ => fA b o e n2 n3
      generalize upd H2 p (.lst (pd.map V.ref ++ [.ref D])) = HA at hTA hA0 ⊢
      have WA := Tr.new_wf W hnL hrL
      have hpA := Tr.new_pot (L := Lr) W hp
      have hLA : (Tr.newRow t Lr).costs[t.plan.length]? = some Lr := by show (t.costs ++ [Lr])[t.plan.length]? = _; rw [W.len, List.getElem?_append_right (Nat.le_refl _), Nat.sub_self]; rfl
      have hlA : (Tr.newRow t Lr).plan.length = t.plan.length + 1 := by show (t.plan ++ [_]).length = _; rw [List.length_append]; rfl
      have hpd' : ∀ a ∈ pd ++ [D], a ∈ pd ∨ H a = none := fun a ha => by
        rcases List.mem_append.mp ha with h | h
        · exact .inl h
        · have : a = D := by simpa using h
          subst this; exact .inr nHD
      refine ⟨fun m σ Hc => ∃ (tk : Tr.T) (xk : Int) (pk : Int → Int) (y3 y4 y5 : Option V), m = xk.toNat ∧ σ = [some (.ref x), some (.int xk), some (.ref d), y3, y4, y5] ∧ AFr r c p pd H Hc ∧ TrAt cT Hc x r c p (cd ++ [q1]) (pd ++ [D]) tk ∧ Tr.Wf tk ∧ Tr.Pot tk pk ∧ tk.room.length ≤ 7 ∧ tk.plan.length = t.plan.length + 1 ∧ tk.costs[t.plan.length]? = some Lr ∧ ∀ t' r', Tr.AddR Lr t.plan.length tk xk t' r' → Tr.AddR Lr t.plan.length (Tr.newRow t Lr) am t' r',
        ⟨_, _, am, pt, none, none, none, rfl, rfl, hA0, hTA, WA, hpA, hrl, hlA, hLA, fun _ _ h => h⟩, ?_⟩
      rintro m σ Hc ⟨tk, xk, pk, y3, y4, y5, rfl, rfl, hAc, hTc, Wc, hpc, hrc, hlcx, hLc, hcon⟩
      refine ⟨.int xk, rfl, _, _, rfl, rfl, _, rfl, ?_⟩
      refine ite2 (fun h0 => ?_) (fun h0 => ?_)
      · have h0 : 0 < xk := of_decide_eq_true h0
        obtain ⟨dx3, ob3⟩ := hTc.ob
        refine ⟨fun σ Hc' => ∃ (tk' : Tr.T) (xk' : Int) (pk : Int → Int) (y3 y4 y5 : Option V), xk'.toNat < xk.toNat ∧ σ = [some (.ref x), some (.int xk'), some (.ref d), y3, y4, y5] ∧ AFr r c p pd H Hc' ∧ TrAt cT Hc' x r c p (cd ++ [q1]) (pd ++ [D]) tk' ∧ Tr.Wf tk' ∧ Tr.Pot tk' pk ∧ tk'.room.length ≤ 7 ∧ tk'.plan.length = t.plan.length + 1 ∧ tk'.costs[t.plan.length]? = some Lr ∧ ∀ t' r', Tr.AddR Lr t.plan.length tk' xk' t' r' → Tr.AddR Lr t.plan.length (Tr.newRow t Lr) am t' r',
          fun σ' H' ⟨tk', xk', pk, y3, y4, y5, h1, h2, h3, h4, h5, h6, h7, h8, h9, h10⟩ => ⟨xk'.toNat, h1, tk', xk', pk, y3, y4, y5, rfl, h2, h3, h4, h5, h6, h7, h8, h9, h10⟩, ?_⟩
        refine ⟨.ref x, rfl, x, dx3, _, rfl, ob3, fT_no _ _ _ (by decide +kernel) (by decide +kernel) (by decide +kernel), x, r, c, p, cd ++ [q1], pd ++ [D], tk, Lr, t.plan.length, pk, rfl, hTc, Wc, hrc, by omega, hLc, hlcx.symm, hpc, fun H3 df F s3 ndf hDF hSe => ?_⟩
        have hFin := hSe.fin Wc hpc hLc
        obtain ⟨Lf, hRf, eLf, hLf⟩ := hDF
        have hRf : H3 df = some (.dK (dkW (fun x : Addr × Tr.Lb => V.ref x.1) Lf)) := hRf
        have hkf : Tr.ks F = Tr.ks Lf := by rw [eLf, ks_map]
        have ndf' : (Tr.ks Lf).Nodup := by rw [← hkf]; exact hFin.nd
        have szf : Lf.length ≤ 7 := by
          have := Tr.nodup_range (m := tk.room.length) ndf' (fun k' hk' => by
            rw [← hkf] at hk'
            obtain ⟨l', e'⟩ := Tr.gv_of_ks hk'
            exact hFin.rng k' l' e')
          simp only [Tr.ks, List.length_map] at this
          omega
        have hFl : F.length = Lf.length := by rw [eLf, List.length_map]
        have two : (2 : Nat) ≤ sizeLine := by decide
        refine ⟨.ref df, rfl, df, _, rfl, hRf, fun of => ⟨df, of, rfl, .inl ⟨_, upd_same, fun De nDe => ?_⟩⟩⟩
        have tkf : TupK H3 (upd H3 df (.frz of (.dK (dkW (fun x : Addr × Tr.Lb => V.ref x.1) Lf)))) := .dK (.inl hRf)
        have sB : Same Hc (upd H3 df (.frz of (.dK (dkW (fun x : Addr × Tr.Lb => V.ref x.1) Lf)))) := fun b o e => by rw [upd_ne (ne_of_none e ndf)]; exact s3 _ _ e
        have eB : upd H3 df (.frz of (.dK (dkW (fun x : Addr × Tr.Lb => V.ref x.1) Lf))) df = some (.frz of (.dK (dkW (fun x : Addr × Tr.Lb => V.ref x.1) Lf))) := upd_same
        have hLB : ∀ k x, Tr.gv Lf k = some x → SqT K (upd H3 df (.frz of (.dK (dkW (fun x : Addr × Tr.Lb => V.ref x.1) Lf)))) x.1 (lbV x.2) := fun k x e => tkf.sq (hLf k x e)
        generalize upd H3 df (.frz of (.dK (dkW (fun x : Addr × Tr.Lb => V.ref x.1) Lf))) = HB at nDe sB eB hLB ⊢
        refine lc_it walk_keys (LcR (fun H v b => ∃ a, v = V.ref a ∧ TriAt K H a b) HB De F (fun e => if 0 < Tr.rm tk e.1 then some (e.2.1, e.2.2.1, e.1) else none)) (.start nDe) (fun m Hm _ h => h.1 _ _ eB) ?_ ?_
        · rintro i y Hz Hx hi hLc2 ⟨rfl, k, v, hkv, rfl⟩
          rw [dkW_len] at hi
          rw [dkW_get] at hkv
          obtain ⟨⟨ke, ta, lb⟩, hen, ekv⟩ := Option.map_eq_some_iff.mp hkv
          cases ekv
          have hgv : Tr.gv Lf ke = some (ta, lb) := Tr.gv_of_mem ndf' (List.mem_of_getElem? hen)
          have hFe : F[i]? = some (ke, lb) := by rw [eLf, List.getElem?_map, hen]; rfl
          have hgF : Tr.gv F ke = some lb := by rw [eLf, gv_map, hgv]; rfl
          have hrg := hFin.rng ke lb hgF
          have sX := sB.trans hLc2.1
          refine ⟨rfl, .ref x, rfl, x, cT, dx3, _, _, rfl, sX _ _ ob3, T.cl, T.nR, fT_room _ _ _, .int ke, rfl, r, _, _, .int (Tr.rm tk ke), rfl, rfl, SqL.of (sX _ _ hTc.rm), atI_int hrg.1 (rm_at hrg), _, _, rfl, rfl, _, rfl, ?_⟩
          refine ite2 (fun h1 => ?_) (fun h1 => ?_)
          · have h1 : 0 < Tr.rm tk ke := of_decide_eq_true h1
            refine ⟨.ref df, rfl, .int ke, rfl, df, _, rfl, DGet.dkW (fun x : Addr × Tr.Lb => V.ref x.1) (.inr ⟨_, hLc2.1 _ _ eB⟩) hgv, sl_take2 ((TupK.of hLc2.1).sq (hLB _ _ hgv)) fun H5 b5 s5 hb5 => ⟨.int ke, rfl, two, fun T6 nT6 => ?_⟩⟩
            refine hLc2.yes (b := (lb.1, lb.2.1, ke)) (fun H H' v b s ⟨a, e, h⟩ => ⟨a, e, h.tk s⟩) nDe (s5.trans (sameNew nT6)) hFe (by rw [if_pos h1]) ⟨T6, rfl, b5, SqT.of upd_same, (TupK.of (sameNew nT6)).sq hb5⟩ (by omega)
          · have h1 : ¬ 0 < Tr.rm tk ke := fun z => h1 (decide_eq_true z)
            exact hLc2.no (fun H H' v b s ⟨a, e, h⟩ => ⟨a, e, h.tk s⟩) (Same.refl _) hFe (by rw [if_neg h1])
        rintro H6 hLc2
        obtain ⟨vs, evs, hvs⟩ := hLc2.done (by rw [dkW_len]; omega)
        obtain ⟨ds, rfl, eds, hds⟩ := rl_ds hvs
        have s6 := sB.trans hLc2.1
        have eB6 := hLc2.1 _ _ eB
        have hT6 := hTc.same s6
        have mem_ds : ∀ x ∈ ds, ∃ l, Tr.gv F x.2.2.2 = some l ∧ 0 < Tr.rm tk x.2.2.2 ∧ x.2.1 = l.1 ∧ x.2.2.1 = l.2.1 := fun z hz => by
          have : z.2 ∈ ds.map (·.2) := List.mem_map.mpr ⟨z, hz, rfl⟩
          rw [← eds] at this
          obtain ⟨en, hen, een⟩ := List.mem_filterMap.mp this
          split at een
          · rename_i h1
            have een := Option.some.inj een
            rw [← een]
            exact ⟨en.2, Tr.gv_of_mem hFin.nd hen, h1, rfl, rfl⟩
          · cases een
        have ds_mem : ∀ v l, Tr.gv F v = some l → 0 < Tr.rm tk v → ∃ z ∈ ds, z.2 = (l.1, l.2.1, v) := fun v l e h1 => by
          have : (l.1, l.2.1, v) ∈ F.filterMap (fun e => if 0 < Tr.rm tk e.1 then some (e.2.1, e.2.2.1, e.1) else none) := List.mem_filterMap.mpr ⟨(v, l), Tr.gv_mem e, by show (if 0 < Tr.rm tk v then _ else _) = _; rw [if_pos h1]⟩
          rw [eds] at this
          obtain ⟨z, hz, ez⟩ := List.mem_map.mp this
          exact ⟨z, hz, ez⟩
        refine ⟨.ref De, rfl, De, _, rfl, .inl (SqL.of evs), rfl, _, rfl, ?_⟩
        refine ite2 (fun h1 => ?_) (fun h1 => ?_)
        · have h1 : ds = [] := by
            have h1 := of_decide_eq_true h1
            have h1 : (((ds.map fun d => V.ref d.1).length : Nat) : Int) = 0 := V.int.inj h1
            rw [List.length_map] at h1
            exact List.eq_nil_of_length_eq_zero (by omega)
          have hno : ∀ v l, Tr.gv F v = some l → Tr.rm tk v ≤ 0 := fun v l e => by
            by_cases z : 0 < Tr.rm tk v
            · obtain ⟨y, hy, _⟩ := ds_mem v l e z
              rw [h1] at hy; cases hy
            · omega
          refine ⟨.ref df, rfl, df, _, Tr.ks Lf, rfl, .inr ⟨_, eB6⟩, dK_keys _ _, by unfold Tr.ks; rw [List.length_map]; omega, fun ys pl hys hpw npl => ?_⟩
          have hA6 : AFr r c p pd H H6 := fun b o e n1 n2 n3 n4 => s6 _ _ (hAc b o e n1 n2 n3 n4)
          exact (q H6 _ _ tk (some F) hA6 hT6 hpd' (hcon _ _ (.stuck h0 hSe hno))).2 F rfl pl ys (by rw [hkf]; exact hys) hpw npl
        · have h1 : ds ≠ [] := fun z => h1 (by rw [z]; rfl)
          obtain ⟨dx6, ob6⟩ := hT6.ob
          refine ⟨.int xk, rfl, .ref x, rfl, x, dx6, _, rfl, ob6, fT_no _ _ _ (by decide +kernel) (by decide +kernel) (by decide +kernel), .ref df, rfl, .ref De, rfl, De, ds, rfl, SqL.of evs, hds, h1, fun dd hdd hmin => ?_⟩
          obtain ⟨b7, h7, _⟩ := hds dd hdd
          obtain ⟨le, hle, hrm, e1, e2⟩ := mem_ds dd hdd
          have hBest : Tr.Best tk F dd.2.2.2 := by
            refine ⟨le, hle, hrm, fun v l el hr => ?_⟩
            obtain ⟨z, hz, ez⟩ := ds_mem v l el hr
            have := hmin z hz
            rw [ez] at this
            have this : ltTri (l.1, l.2.1, v) dd.2 = false := this
            unfold ltTri at this
            simp only [e1, e2] at this
            unfold Tr.leP
            simp only
            refine ⟨?_, fun eq => ?_⟩
            · split at this
              · split at this
                · omega
                · have := of_decide_eq_false this; omega
              · have := of_decide_eq_false this; omega
            · obtain ⟨q1', q2'⟩ := Prod.mk.inj (show (le.1, le.2.1) = (l.1, l.2.1) from eq)
              rw [if_pos q1'.symm, if_pos q2'.symm] at this
              have := of_decide_eq_false this
              omega
          obtain ⟨le2, hPI, hM⟩ := Tr.push_in Wc hpc hLc h0 hFin hBest
          refine ⟨dd.1, _, 1, .int dd.2.2.2, rfl, rfl, h7, atI_nat (j := 1) rfl, .int xk, rfl, x, r, c, p, df, cd ++ [q1], pd ++ [D], tk, Lr, t.plan.length, F, dd.2.2.2, xk, le2, rfl, hT6, Wc, hrc, by omega, hLc, hFin, hPI, ⟨Lf, .inr ⟨_, eB6⟩, eLf, fun k x e => (TupK.of hLc2.1).sq (hLB k x e)⟩, (fun b hb hin => by
            obtain ⟨k, e⟩ := hT6.pdAll b hin
            rw [e] at hb; cases hb), fun H8 fr8 hT8 => ?_⟩
          refine ⟨_, _, rfl, rfl, ?_⟩
          have hd0 := hPI.d0
          have hbn : ∀ b o, H b = some o → ¬ b ∈ pd → ¬ b ∈ pd ++ [D] := fun b o e h hin => by
            rcases List.mem_append.mp hin with z | z
            · exact h z
            · have : b = D := by simpa using z
              subst this; rw [nHD] at e; cases e
          exact ⟨Tr.pushT tk dd.2.2.2 (Tr.many tk F dd.2.2.2 xk) (Tr.way F dd.2.2.2), xk - Tr.many tk F dd.2.2.2 xk, _, _, _, _, by omega, rfl, fun b o e n1 n2 n3 n4 => fr8 b o (s6 _ _ (hAc b o e n1 n2 n3 n4)) n1 (hbn b o e n4), hT8, Tr.push_wf Wc hLc hFin hPI, Tr.push_pot Wc hpc hLc hFin hPI, by show (tk.room.set _ _).length ≤ 7; rw [List.length_set]; exact hrc, (Tr.push_len Wc hLc hFin hPI).trans hlcx, hLc, fun t' r' h => hcon _ _ (.push h0 hSe hBest h)⟩
      · have h0 : ¬ 0 < xk := fun z => h0 (decide_eq_true z)
        exact (q Hc _ _ tk none hAc hTc hpd' (hcon _ _ (.done (show xk ≤ 0 by omega)))).1 rfl
end
end Pv

namespace Pv
open PySem PySem.Spec PyProof.Rows L2
abbrev sTQ : Stmt := inCls (topS 18) 5
theorem scTQ : FnScope ["self", "highest", "moves", "prices", "turn", "column", "left", "price", "end", "cost", "row"] ["self", "highest"] (defScope sTQ) := ⟨rfl, rfl, rfl, by decide +kernel, rfl, by decide +kernel, by decide +kernel⟩
section
variable {P : Program} {w : World} {K : PySem.W.Frag} {mg : Str → Option Value} {base : Heap}
set_option maxHeartbeats 8000000 in
theorem ok_TQ {f fTM : Addr} {fd fdTM : FuncData} {cT : Addr} (T : TTx K mg cT) (F : Fun K "column_prices" "Transport.column_prices" sTQ f fd)
    (FTM : Fun K "cheapest_moves" "Transport.cheapest_moves" sTM fTM fdTM) (bTM : Binds K fdTM ["self", "start"] []) (mTM : Meth K cT "cheapest_moves" fTM) (GTM : FnOk P w K mg base CX0 1 fTM fdTM ["self", "start"] (spTM K cT))
    (m_len : mg "len" = none) (m_range : mg "range" = none) (m_enumerate : mg "enumerate" = none) (m_min : mg "min" = none) :
    FnOk P w K mg base CX0 2 f fd ["self", "highest"] (spTQ cT) := by
  refine F.ok scTQ (fun vs H Q E h => ?_) (fun cdv A outer s H vs Q E hr h => ?_)
  · obtain ⟨x, r, c, p, cd, pd, t, hi, rfl, _⟩ := h; rfl
  · obtain ⟨x, r, c, p, cd, pd, t, hi, rfl, hT, W, hrl, hpl, q⟩ := h
    refine ⟨_, pss_cons (ps_set (i := 2) scTQ.nd rfl (.inr rfl) (pe_lc (own := [("column", 5)]) (g := gName 5) (tt := tYes) (te := tMeth cT "cheapest_moves" (spTM K cT) [] E0 (tVar 0) (tCons (tVar 5) tNil)) rfl scTQ.nd (pi_range1 (by rfl) m_range (pa_cons (pe_callB call_lenQ (by rfl) m_len PySem.boot_len (pa_cons (pe_fld (pv 0) rfl) pa_nil)) pa_nil)) (blkOk_by (N := ["self", "highest", "moves", "prices", "turn", "column", "left", "price", "end", "cost", "row"]) (sc := defScope sTQ) (by decide +kernel)) (fun _ _ _ _ _ => pg_name (i := 5) scTQ.nd rfl (.inl rfl)) (fun _ _ _ _ _ => pts_nil) (fun _ _ _ _ _ => pe_meth (pv 0) T.cl mTM GTM (hr.mono (by omega)) bTM .nil pass0 (pa_cons (pv 5) pa_nil))))
      (pss_cons (ps_set (i := 3) scTQ.nd rfl (.inr rfl) (pe_lc (own := [("left", 6)]) (g := gName 6) (tt := tYes) (te := tIf (tTest (tOp (rI0 fun i j => .bl (decide (j < i))) (tVar 6) (tC (.int 0)))) (tC (.int 0)) (tVar 1)) rfl scTQ.nd (pi_list (pe_fld (pv 0) rfl)) (blkOk_by (N := ["self", "highest", "moves", "prices", "turn", "column", "left", "price", "end", "cost", "row"]) (sc := defScope sTQ) (by decide +kernel)) (fun _ _ _ _ _ => pg_name (i := 6) scTQ.nd rfl (.inl rfl)) (fun _ _ _ _ _ => pts_nil) (fun _ _ _ _ _ => pe_ifExp (pt_cmpR op_gt (pv 6) (pe_int) (nomark _)) (pe_int) (pv 1))))
      (pss_cons (ps_for PassesOwn.never rfl (pi_range1 (by rfl) m_range (pa_cons (pe_callB call_lenQ (by rfl) m_len PySem.boot_len (pa_cons (pe_fld (pv 0) rfl) pa_nil)) pa_nil)) (pg_name (i := 4) scTQ.nd rfl (.inl rfl))
        (pss_one (ps_set (i := 3) scTQ.nd rfl (.inr rfl) (pe_lc (own := [("column", 5), ("price", 7)]) (g := gTup K 2 (gCons (gName 5) (gCons (gName 7) gNil))) (tt := tYes) (te := tCB (rMin K) (tCons (tOp rCat (tLst (tCons (tVar 7) tNil)) (tLockE (tLc (iItems (tOp (rIxL K) (tVar 2) (tVar 5))) (gTup K 2 (gCons (gName 8) (gCons (gTup K 2 (gCons (gName 9) (gCons (gName 10) gNil))) gNil))) (tYes) (tOp (rI0 fun i j => .int (i + j)) (tVar 9) (tOp (rIxL K) (tVar 3) (tVar 8))) [8, 9, 10]))) tNil)) rfl scTQ.nd (pi_enum (by rfl) m_enumerate (pa_cons (pv 3) pa_nil)) (blkOk_by (N := ["self", "highest", "moves", "prices", "turn", "column", "left", "price", "end", "cost", "row"]) (sc := defScope sTQ) (by decide +kernel)) (fun _ _ _ _ _ => pg_tup rfl (pgs_cons (pg_name (i := 5) scTQ.nd rfl (.inl rfl)) (pgs_cons (pg_name (i := 7) scTQ.nd rfl (.inl rfl)) pgs_nil))) (fun _ _ _ _ _ => pts_nil) (fun _ _ _ _ _ => pe_callB (cr_min rfl) (by rfl) m_min (by decide +kernel) (pa_cons (pe_op op_cat (pe_lst (pa_cons (pv 7) pa_nil)) (pe_lock (pe_lc (own := [("end", 8), ("cost", 9), ("row", 10)]) (g := gTup K 2 (gCons (gName 8) (gCons (gTup K 2 (gCons (gName 9) (gCons (gName 10) gNil))) gNil))) (tt := tYes) (te := tOp (rI0 fun i j => .int (i + j)) (tVar 9) (tOp (rIxL K) (tVar 3) (tVar 8))) rfl scTQ.nd (pi_items (pe_ix ix_list (pv 2) (pv 5) (fun _ _ => rfl))) (blkOk_by (N := ["self", "highest", "moves", "prices", "turn", "column", "left", "price", "end", "cost", "row"]) (sc := { kind := .function, names := [(".0", .local), ("column", .local), ("price", .local), ("min", .globalImplicit), ("moves", .cell), ("prices", .cell)], isGenerator := false, isCoroutine := false }) (by decide +kernel)) (fun _ _ _ _ _ => pg_tup rfl (pgs_cons (pg_name (i := 8) scTQ.nd rfl (.inl rfl)) (pgs_cons (pg_tup rfl (pgs_cons (pg_name (i := 9) scTQ.nd rfl (.inl rfl)) (pgs_cons (pg_name (i := 10) scTQ.nd rfl (.inl rfl)) pgs_nil))) pgs_nil))) (fun _ _ _ _ _ => pts_nil) (fun _ _ _ _ _ => pe_op op_add (pv 9) (pe_ix ix_list (pv 3) (pv 8) (fun _ _ => rfl)))))) pa_nil))))))
      (pss_one (ps_ret (pv 3))))), ?_⟩
    obtain ⟨dx, ob⟩ := hT.ob
    have one : (1 : Nat) ≤ sizeLine := by decide
    -- the moves
    refine ⟨.ref x, rfl, x, cT, dx, _, _, rfl, ob, T.cl, T.nR, fT_room _ _ _, r, _, rfl, .inl (SqL.of hT.rm), _, rfl, (by omega), (by rw [List.length_map]; omega), fun D nD => ?_⟩
    have eln : (((t.room.map V.int).length : Nat) : Int).toNat = t.room.length := by rw [List.length_map]; omega
    rw [eln]
    refine lc_range (lo := 0) (n := t.room.length) (fun i Hc => Same H Hc ∧ ∃ ds : List Addr, Hc D = some (.lst (ds.map V.ref)) ∧ ds.length = i ∧ ∀ (j : Nat) (d : Addr), ds[j]? = some d → DTup K Hc (Is Hc) mvV d (Tr.moves t (j : Int)))
      ⟨sameNew nD, [], upd_same, rfl, fun j d e => by simp at e⟩ ?_ ?_
    · rintro i Hc hi ⟨sc, ds, eD, ld, hds⟩
      refine ⟨rfl, .ref x, rfl, x, dx, _, rfl, sc _ _ ob, fT_no _ _ _ (by decide +kernel) (by decide +kernel) (by decide +kernel), .int (0 + (i : Nat)), rfl, x, r, c, p, cd, pd, t, (0 + (i : Nat)), rfl, hT.same sc, W, hrl, hpl, fun H2 d2 s2 nd2 hM => ?_⟩
      have hD2 := s2 _ _ eD
      have nd2D : d2 ≠ D := fun z => by rw [z, eD] at nd2; cases nd2
      refine ⟨_, hD2, by rw [List.length_map]; exact small (by omega), fun b o e => by rw [upd_ne (ne_of_none e nD)]; exact s2 _ _ (sc _ _ e), ds ++ [d2], by rw [upd_same, List.map_append]; rfl, by rw [List.length_append, ld]; rfl, fun j d e => ?_⟩
      have mv : ∀ {d j}, DTup K H2 (Is H2) mvV d (Tr.moves t j) → DTup K (upd H2 D (.lst (ds.map V.ref ++ [V.ref d2]))) (Is (upd H2 D (.lst (ds.map V.ref ++ [V.ref d2])))) mvV d (Tr.moves t j) := fun {d j} ⟨Lm, h1, h2, h3⟩ => by
        refine ⟨Lm, ?_, h2, fun k x e => (TupK.put hD2).sq (h3 k x e)⟩
        show upd H2 D _ d = _
        rw [upd_ne (fun z => by rw [z] at h1; have h1 : H2 D = _ := h1; rw [hD2] at h1; cases h1)]
        exact h1
      rw [List.getElem?_append] at e
      by_cases hj : j < ds.length
      · rw [if_pos hj] at e
        obtain ⟨Lm, h1, h2, h3⟩ := hds j d e
        exact mv ⟨Lm, s2 _ _ h1, h2, fun k x e => (TupK.of s2).sq (h3 k x e)⟩
      · rw [if_neg hj] at e
        have hz : j - ds.length = 0 := by
          have := (List.getElem?_eq_some_iff.mp e).1
          simp only [List.length_singleton] at this
          omega
        rw [hz] at e
        have e : d2 = d := by simpa using e
        subst e
        have hji : (j : Int) = 0 + (i : Nat) := by omega
        rw [hji]
        exact mv hM
    rintro Hm ⟨sm, ds, eMv, ld, hds⟩
    -- the first prices
    refine ⟨.ref x, rfl, x, cT, dx, _, _, rfl, sm _ _ ob, T.cl, T.nR, fT_room _ _ _, r, rfl, ⟨_, SqL.of (sm _ _ hT.rm)⟩, fun Lp nLp => lc_it (walk_list (K := K) (a := r) (xs := t.room.map V.int)) (LcP Hm Lp t.room (fun x => some (V.int (if 0 < x then 0 else hi)))) (.start nLp) (fun m H' _ h => SqL.of (h.1 _ _ (sm _ _ hT.rm))) ?_ ?_⟩
    · rintro i y Hz Hc hi' hP ⟨rfl, hy⟩
      have hy : (t.room.map V.int)[i]? = some y := hy
      rw [List.getElem?_map] at hy
      obtain ⟨rv, hrv, rfl⟩ := Option.map_eq_some_iff.mp hy
      have hil := (List.getElem?_eq_some_iff.mp hrv).1
      refine ⟨rfl, .int rv, rfl, _, _, rfl, rfl, _, rfl, ?_⟩
      refine ite2 (fun h1 => ?_) (fun h1 => ?_)
      · have h1 : 0 < rv := of_decide_eq_true h1
        exact hP.yes nLp (Same.refl _) hrv (by rw [if_pos h1]) (by omega)
      · have h1 : ¬ 0 < rv := fun z => h1 (decide_eq_true z)
        exact ⟨.int hi, rfl, hP.yes nLp (Same.refl _) hrv (by rw [if_neg h1]) (by omega)⟩
    rintro H0 hP
    have eL0 := hP.done (by rw [List.length_map]; exact Nat.le_refl _)
    rw [fm_map] at eL0
    have eL0 : H0 Lp = some (.lst ((Tr.qN t hi 0).map V.int)) := by rw [eL0]; show _ = some (HO.lst ((t.room.map _).map V.int)); rw [List.map_map]; rfl
    have s0 := sm.trans hP.1
    have eMv0 := hP.1 _ _ eMv
    have hds0 : ∀ (j : Nat) (d : Addr), ds[j]? = some d → DTup K H0 (Is H0) mvV d (Tr.moves t (j : Int)) := fun j d e => by
      obtain ⟨Lm, h1, h2, h3⟩ := hds j d e
      exact ⟨Lm, hP.1 _ _ h1, h2, fun k x e => (TupK.of hP.1).sq (h3 k x e)⟩
    clear hP
    -- the turns
    refine ⟨.ref x, rfl, x, cT, dx, _, _, rfl, s0 _ _ ob, T.cl, T.nR, fT_room _ _ _, r, _, rfl, .inl (SqL.of (s0 _ _ hT.rm)), _, rfl, (by omega), (by rw [List.length_map]; omega), ?_⟩
    rw [eln]
    refine for_range (lo := 0) (n := t.room.length) (fun n σ Hc => ∃ (Lq : Addr) (y4 y5 y6 y7 y8 y9 y10 : Option V), σ = [some (.ref x), some (.int hi), some (.ref D), some (.ref Lq), y4, y5, y6, y7, y8, y9, y10] ∧ Same H0 Hc ∧ Hc Lq = some (.lst ((Tr.qN t hi n).map V.int)))
      ⟨Lp, _, _, _, _, _, _, _, rfl, Same.refl _, eL0⟩ ?_ ?_
    · rintro n σ Hc hn ⟨Lq, y4, y5, y6, y7, y8, y9, y10, rfl, sc, eLq⟩
      have hql := Tr.qN_len t hi n
      refine ⟨.ref Lq, rfl, Lq, _, rfl, SqL.of eLq, fun E nE => lc_it (walk_enum (K := K) (a := Lq) (xs := (Tr.qN t hi n).map V.int)) (LcP Hc E (List.range t.room.length) (fun c => some (V.int (Tr.price1 t (Tr.qN t hi n) c)))) (.start nE) (fun m H' _ h => SqL.of (h.1 _ _ eLq)) ?_ ?_⟩
      · rintro i y Ha Hb hi2 hP ⟨Tp, u, v, rfl, nTp, rfl, hu, hv⟩
        have hu : V.int (i : Nat) = u := Option.some.inj hu
        subst hu
        have hv : ((Tr.qN t hi n).map V.int)[i]? = some v := hv
        rw [List.getElem?_map] at hv
        obtain ⟨pv', hpv, rfl⟩ := Option.map_eq_some_iff.mp hv
        have hil : i < t.room.length := by rw [← hql]; exact (List.getElem?_eq_some_iff.mp hpv).1
        have sT := sameNew (o := .tup [.int (i : Nat), .int pv']) nTp
        have sA := sc.trans (hP.1.trans sT)
        have hdl : i < ds.length := by omega
        have edi : ds[i]? = some ds[i] := List.getElem?_eq_getElem hdl
        generalize ds[i] = di at edi
        obtain ⟨Lm, hR, eLm, hLm⟩ := hds0 i di edi
        have hR : H0 di = some (.dK (dkW (fun x : Addr × (Int × Int) => V.ref x.1) Lm)) := hR
        refine ⟨Tp, _, rfl, SqT.of upd_same, rfl, _, _, rfl, _, _, rfl, rfl, rfl, ?_⟩
        refine ⟨.int pv', rfl, one, fun p1 np1 => ?_⟩
        have s1 := sA.trans (sameNew (o := .lst [.int pv']) np1)
        have ep1 : upd (upd Ha Tp (.tup [.int (i : Nat), .int pv'])) p1 (.lst [.int pv']) p1 = some (.lst [.int pv']) := upd_same
        have hE1 := (sT.trans (sameNew (o := .lst [.int pv']) np1)) _ _ hP.2
        have sAp : Same Ha (upd (upd Ha Tp (.tup [.int (i : Nat), .int pv'])) p1 (.lst [.int pv'])) := sT.trans (sameNew (o := .lst [.int pv']) np1)
        have eLq1 := (hP.1.trans sAp) _ _ eLq
        generalize upd (upd Ha Tp (.tup [.int (i : Nat), .int pv'])) p1 (.lst [.int pv']) = Hx at s1 ep1 hE1 sAp eLq1 ⊢
        have hRx := s1 _ _ hR
        refine ⟨di, _, hRx, trivial, fun od => ?_⟩
        have nlst : ∀ {b vs}, Hx b = some (.lst vs) → b ≠ di := fun e z => by rw [z, hRx] at e; cases e
        have eMx := s1 _ _ eMv0
        refine ⟨.ref D, rfl, .int (i : Nat), rfl, D, _, _, .ref di, rfl, rfl, SqL.of (by rw [upd_ne (nlst eMx)]; exact eMx), atI_nat (j := i) (by rw [List.getElem?_map, edi]; rfl), di, od, _, rfl, upd_same, fun D2 nD2 => ?_⟩
        have tkL : TupK Hx (upd Hx di (.frz od (.dK (dkW (fun x : Addr × (Int × Int) => V.ref x.1) Lm)))) := .dK (.inl hRx)
        have eLqL : upd Hx di (.frz od (.dK (dkW (fun x : Addr × (Int × Int) => V.ref x.1) Lm))) Lq = some (.lst ((Tr.qN t hi n).map V.int)) := by rw [upd_ne (nlst eLq1)]; exact eLq1
        have ediL : upd Hx di (.frz od (.dK (dkW (fun x : Addr × (Int × Int) => V.ref x.1) Lm))) di = some (.frz od (.dK (dkW (fun x : Addr × (Int × Int) => V.ref x.1) Lm))) := upd_same
        have hLmL : ∀ k x, Tr.gv Lm k = some x → SqT K (upd Hx di (.frz od (.dK (dkW (fun x : Addr × (Int × Int) => V.ref x.1) Lm)))) x.1 (mvV x.2) := fun k x e => tkL.sq ((TupK.of s1).sq (hLm k x e))
        have ep1L : upd Hx di (.frz od (.dK (dkW (fun x : Addr × (Int × Int) => V.ref x.1) Lm))) p1 = some (.lst [.int pv']) := by rw [upd_ne (nlst ep1)]; exact ep1
        have frL : ∀ b o, Hx b = some o → b ≠ di → upd Hx di (.frz od (.dK (dkW (fun x : Addr × (Int × Int) => V.ref x.1) Lm))) b = some o := fun b o e nb => by rw [upd_ne nb]; exact e
        generalize upd Hx di (.frz od (.dK (dkW (fun x : Addr × (Int × Int) => V.ref x.1) Lm))) = HL at nD2 eLqL ediL hLmL ep1L frL ⊢
        have ndM : (Tr.ks Lm).Nodup := by rw [← ks_map (fun x : Addr × (Int × Int) => x.2), ← eLm]; exact (Tr.moves_arc (t := t) (a := (i : Int))).1
        have rgM : ∀ k x, Tr.gv Lm k = some x → 0 ≤ k ∧ k < t.room.length := fun k x e => by
          have : Tr.gv (Tr.moves t (i : Int)) k = some x.2 := by rw [eLm, gv_map, e]; rfl
          obtain ⟨i', _, ar⟩ := (Tr.moves_arc (t := t) (a := (i : Int))).2 k x.2.1 x.2.2 this
          exact (W.arc ar).2
        have szM : Lm.length ≤ 7 := by
          have := Tr.nodup_range (m := t.room.length) ndM (fun k hk => by obtain ⟨y, e⟩ := Tr.gv_of_ks hk; exact rgM k y e)
          simp only [Tr.ks, List.length_map] at this
          omega
        refine lc_it walk_items (LcP HL D2 Lm (fun e => some (V.int (e.2.2.1 + Tr.qa (Tr.qN t hi n) e.1)))) (.start nD2) (fun m H' _ h => h.1 _ _ ediL) ?_ ?_
        · rintro j y Hy Hz hj hQ ⟨Tq, u, v, rfl, nTq, rfl, hu, hv⟩
          rw [dkW_len] at hj
          have eL : Lm[j]? = some Lm[j] := List.getElem?_eq_getElem hj
          generalize Lm[j] = en at eL
          obtain ⟨k, mt, cst, row⟩ := en
          have hu : ((dkW (fun x : Addr × (Int × Int) => V.ref x.1) Lm)[j]?).map (fun kv => kV kv.1) = some u := hu
          have hv : ((dkW (fun x : Addr × (Int × Int) => V.ref x.1) Lm)[j]?).map Prod.snd = some v := hv
          rw [dkW_get, eL] at hu hv
          have hu : V.int k = u := Option.some.inj hu
          have hv : V.ref mt = v := Option.some.inj hv
          subst hu hv
          have hgk := Tr.gv_of_mem ndM (List.mem_of_getElem? eL)
          have hgk : Tr.gv Lm k = some (mt, cst, row) := hgk
          have hrk := rgM k _ hgk
          have sQ := hQ.1.trans (sameNew (o := .tup [.int k, .ref mt]) nTq)
          have hmt := (TupK.of sQ).sq (hLmL k _ hgk)
          have hqk : ((Tr.qN t hi n).map V.int)[k.toNat]? = some (V.int (Tr.qa (Tr.qN t hi n) k)) := by
            rw [List.getElem?_map, List.getElem?_eq_getElem (by omega)]
            unfold Tr.qa
            rw [List.getD_eq_getElem?_getD, List.getElem?_eq_getElem (by omega)]
            rfl
          refine ⟨Tq, _, rfl, SqT.of upd_same, rfl, _, _, rfl, _, _, rfl, mt, _, rfl, hmt, rfl, _, _, rfl, _, _, rfl, rfl, rfl, rfl, ?_⟩
          refine ⟨.int cst, rfl, .ref Lq, rfl, .int k, rfl, Lq, _, _, .int (Tr.qa (Tr.qN t hi n) k), rfl, rfl, SqL.of (sQ _ _ eLqL), atI_int hrk.1 hqk, _, _, rfl, rfl, ?_⟩
          exact hQ.yes nD2 (sameNew nTq) eL rfl (by omega)
        rintro H3 hQ
        have eD2 := hQ.done (by rw [dkW_len]; exact Nat.le_refl _)
        rw [fm_map] at eD2
        refine ⟨hQ.1 _ _ ediL, ?_⟩
        have nD2di : D2 ≠ di := fun z => by rw [z, ediL] at nD2; cases nD2
        have np1di : p1 ≠ di := nlst ep1
        have eD2U : upd H3 di (.dK (dkW (fun x : Addr × (Int × Int) => V.ref x.1) Lm)) D2 = some (.lst (Lm.map fun e => V.int (e.2.2.1 + Tr.qa (Tr.qN t hi n) e.1))) := by rw [upd_ne nD2di]; exact eD2
        have ep1U : upd H3 di (.dK (dkW (fun x : Addr × (Int × Int) => V.ref x.1) Lm)) p1 = some (.lst [.int pv']) := by rw [upd_ne np1di]; exact hQ.1 _ _ ep1L
        have sU : Same Hx (upd H3 di (.dK (dkW (fun x : Addr × (Int × Int) => V.ref x.1) Lm))) := fun b o e => by
          by_cases z : b = di
          · subst z; rw [upd_same, ← e, hRx]
          · rw [upd_ne z]; exact hQ.1 _ _ (frL b o e z)
        generalize upd H3 di (.dK (dkW (fun x : Addr × (Int × Int) => V.ref x.1) Lm)) = H4 at eD2U ep1U sU ⊢
        refine ⟨p1, D2, [.int pv'], _, rfl, rfl, ep1U, eD2U, by rw [List.length_map]; exact Nat.le_of_lt (small (by simp only [List.length_cons, List.length_nil]; omega)), fun p3 np3 => ?_⟩
        refine ⟨p3, pv' :: Lm.map (fun e => e.2.2.1 + Tr.qa (Tr.qN t hi n) e.1), rfl, SqL.of (by rw [upd_same, List.map_cons, List.map_map]; rfl), by simp, fun m hm hle => ?_⟩
        have em : m = Tr.price1 t (Tr.qN t hi n) i := by
          unfold Tr.price1
          have e1 : (Tr.moves t (i : Int)).map (fun m => m.2.1 + Tr.qa (Tr.qN t hi n) m.1) = Lm.map (fun e => e.2.2.1 + Tr.qa (Tr.qN t hi n) e.1) := by rw [eLm, List.map_map]; rfl
          have e2 : Tr.qa (Tr.qN t hi n) (i : Int) = pv' := by
            unfold Tr.qa
            rw [List.getD_eq_getElem?_getD]
            show (Tr.qN t hi n)[i]?.getD 0 = pv'
            rw [hpv]; rfl
          rw [e1, e2]
          exact Tr.lmin_eq hm hle
        subst em
        exact hP.yes nE (sAp.trans (sU.trans (sameNew np3))) (List.getElem?_range (by omega)) rfl (by omega)
      · rintro H2 hP
        have eE := hP.done (by rw [List.length_range, List.length_map, hql]; exact Nat.le_refl _)
        rw [fm_map] at eE
        refine ⟨E, _, _, _, _, _, _, _, rfl, sc.trans hP.1, ?_⟩
        rw [eE]
        show _ = some (HO.lst (((List.range t.room.length).map (Tr.price1 t (Tr.qN t hi n))).map V.int))
        rw [List.map_map]; rfl
    · rintro σ Hc ⟨Lq, y4, y5, y6, y7, y8, y9, y10, rfl, sc, eLq⟩
      exact ⟨_, rfl, q Hc Lq (s0.trans sc) eLq⟩
end
end Pv

namespace Pv
open PySem PySem.Spec PyProof.Rows L2
abbrev sWhole : Stmt := topS 1
abbrev sWithin : Stmt := topS 2
abbrev sTupOf : Stmt := topS 3
abbrev sSp : Stmt := topS 4
theorem scWhole : FnScope ["value"] ["value"] (defScope sWhole) := ⟨rfl, rfl, rfl, by decide +kernel, rfl, by decide +kernel, by decide +kernel⟩
theorem scWithin : FnScope ["value", "least", "most"] ["value", "least", "most"] (defScope sWithin) := ⟨rfl, rfl, rfl, by decide +kernel, rfl, by decide +kernel, by decide +kernel⟩
theorem scTupOf : FnScope ["value", "least", "most"] ["value", "least", "most"] (defScope sTupOf) := ⟨rfl, rfl, rfl, by decide +kernel, rfl, by decide +kernel, by decide +kernel⟩
theorem scSp : FnScope ["value", "size", "total", "number"] ["value", "size", "total"] (defScope sSp) := ⟨rfl, rfl, rfl, by decide +kernel, rfl, by decide +kernel, by decide +kernel⟩
/-! what a value is, by its data -/
def wholeD (d : PyData) : Bool := isInt d && !isBool d
def withinD (a b : Int) : PyData → Bool
  | .int i => decide (a ≤ i ∧ i ≤ b)
  | _ => false
def tupOfD (a b : Int) : PyData → Bool
  | .tuple ds => decide (a ≤ (ds.length : Int) ∧ (ds.length : Int) ≤ b)
  | _ => false
def intsAll : List PyData → Option (List Int)
  | [] => some []
  | .int i :: r => (intsAll r).map (i :: ·)
  | _ :: _ => none
def intsOf : PyData → Option (List Int)
  | .tuple ds => intsAll ds
  | _ => none
theorem intsAll_ints : ∀ row : List Int, intsAll (row.map PyData.int) = some row
  | [] => rfl
  | i :: r => by simp [intsAll, intsAll_ints r]
theorem intsAll_eq : ∀ {ds : List PyData} {row : List Int}, intsAll ds = some row → ds = row.map PyData.int
  | [], row, h => by simp [intsAll] at h; subst h; rfl
  | d :: ds, row, h => by
    cases d <;> simp [intsAll] at h
    obtain ⟨r, h1, rfl⟩ := h
    rw [intsAll_eq h1]; rfl
theorem within_ints : ∀ {ds : List PyData} {a b : Int}, ds.all (withinD a b) = true → ∃ row : List Int, ds = row.map PyData.int ∧ row.all (fun x => decide (a ≤ x ∧ x ≤ b)) = true
  | [], _, _, _ => ⟨[], rfl, rfl⟩
  | d :: ds, a, b, h => by
    rw [List.all_cons, Bool.and_eq_true] at h
    obtain ⟨row, e, h2⟩ := within_ints h.2
    cases d with
    | int i => exact ⟨i :: row, by rw [e]; rfl, by rw [List.all_cons, Bool.and_eq_true]; exact ⟨h.1, h2⟩⟩
    | _ => simp [withinD] at h
def shareOk (n : Int) (row : List Int) : Bool := row.all (fun x => decide (0 ≤ x ∧ x ≤ n)) && decide (row.sum = n)
def shareD (gp : Gp) (d : PyData) : Bool := match intsOf d with
  | some row => decide (row.length = gp.1.length + 1) && shareOk gp.2 row
  | none => false
theorem shareD_dI (gp : Gp) (row : List Int) : shareD gp (dI row) = (decide (row.length = gp.1.length + 1) && shareOk gp.2 row) := by
  simp [shareD, dI, intsOf, intsAll_ints]
def splitD (n t : Int) (d : PyData) : Bool := match intsOf d with
  | some row => decide ((row.length : Int) = n) && shareOk t row
  | none => false
theorem split_share (gp : Gp) (d : PyData) : splitD ((gp.1.length : Int) + 1) gp.2 d = shareD gp d := by
  unfold splitD shareD
  cases intsOf d with
  | none => rfl
  | some row =>
    simp only
    congr 1
    by_cases h : row.length = gp.1.length + 1
    · rw [decide_eq_true h, decide_eq_true (by omega)]
    · rw [decide_eq_false h, decide_eq_false (by omega)]
section
variable {P : Program} {w : World} {K : PySem.W.Frag} {mg : Str → Option Value} {base : Heap}
def spWhole (K : PySem.W.Frag) : Sp := fun vs H Q _ => ∃ (st r : Addr) (v : V) (d : PyData), vs = [v] ∧ Dq K st r H v d ∧ Q (.bl (wholeD d)) H
theorem ok_whole {f : Addr} {fd : FuncData} {k : Nat} (F : Fun K "is_whole" "is_whole" sWhole f fd) (mi : mg "isinstance" = none) (mint : mg "int" = none) (mb : mg "bool" = none) :
    FnOk P w K mg base CX0 (k + 1) f fd ["value"] (spWhole K) := by
  refine F.ok scWhole (fun vs H Q E h => ?_) (fun cdv A outer s H vs Q E hr h => ?_)
  · obtain ⟨st, r, v, d, rfl, _⟩ := h; rfl
  · obtain ⟨st, r, v, d, rfl, hd, q⟩ := h
    refine ⟨_, pss_one (ps_ret (pe_and (pe_callB call_isi (by rfl) mi (by decide +kernel) (pa_cons (pv 0) (pa_cons (pe_bltn (v := .ty "int") (by rfl) mint (by decide +kernel) rfl) pa_nil)))
      (pe_one (pe_not (pe_callB call_isi (by rfl) mi (by decide +kernel) (pa_cons (pv 0) (pa_cons (pe_bltn (v := .ty "bool") (by rfl) mb (by decide +kernel) rfl) pa_nil))))))), ?_⟩
    refine ⟨v, rfl, v, .ty "int", _, _, _, rfl, .ty _, hd.ty, kit_int d, _, rfl, ite2 (fun h1 => ?_) (fun h1 => ?_)⟩
    · refine ⟨v, rfl, v, .ty "bool", _, _, _, rfl, .ty _, hd.ty, kit_bool d, _, rfl, ?_⟩
      unfold wholeD at q
      rw [h1, Bool.true_and] at q
      exact q
    · unfold wholeD at q
      rw [Bool.eq_false_iff.mpr h1, Bool.false_and] at q
      exact q
def spWithin (K : PySem.W.Frag) : Sp := fun vs H Q _ => ∃ (st r : Addr) (v : V) (d : PyData) (a b : Int), vs = [v, .int a, .int b] ∧ Dq K st r H v d ∧ Q (.bl (withinD a b d)) H
theorem ok_within {f fW : Addr} {fd fdW : FuncData} {k : Nat} (F : Fun K "is_within" "is_within" sWithin f fd) (FW : Fun K "is_whole" "is_whole" sWhole fW fdW) (bW : Binds K fdW ["value"] []) (gW : mg "is_whole" = some (.ref fW))
    (GW : FnOk P w K mg base CX0 1 fW fdW ["value"] (spWhole K)) : FnOk P w K mg base CX0 (1 + k + 1) f fd ["value", "least", "most"] (spWithin K) := by
  refine F.ok scWithin (fun vs H Q E h => ?_) (fun cdv A outer s H vs Q E hr h => ?_)
  · obtain ⟨st, r, v, d, a, b, rfl, _⟩ := h; rfl
  · obtain ⟨st, r, v, d, a, b, rfl, hd, q⟩ := h
    refine ⟨_, pss_one (ps_ret (pe_and (pe_call GW (hr.mono (by omega)) (by rfl) gW FW.kp bW .nil pass0 (pa_cons (pv 0) pa_nil)) (pe_one (pe_chain op_le op_le (pv 1) (pv 0) (pv 2))))), ?_⟩
    refine ⟨v, rfl, st, r, v, d, rfl, hd, _, rfl, ite2 (fun h1 => ?_) (fun h1 => ?_)⟩
    · cases d with
      | int i =>
        cases hd
        refine ⟨.int a, rfl, .int i, rfl, _, _, rfl, rfl, _, rfl, ite2 (fun h2 => ?_) (fun h2 => ?_)⟩
        · refine ⟨.int b, rfl, _, _, rfl, rfl, ?_⟩
          have h2' : a ≤ i := of_decide_eq_true h2
          simpa [withinD, h2'] using q
        · have h2' : ¬ a ≤ i := fun z => h2 (decide_eq_true z)
          simpa [withinD, h2'] using q
      | _ => simp [wholeD, isInt, isBool] at h1
    · cases d with
      | int i => simp [wholeD, isInt, isBool] at h1
      | _ => exact q
def spTupOf (K : PySem.W.Frag) : Sp := fun vs H Q _ => ∃ (st r : Addr) (v : V) (d : PyData) (a b : Int), vs = [v, .int a, .int b] ∧ Dq K st r H v d ∧ Q (.bl (tupOfD a b d)) H
theorem ok_tupOf {f : Addr} {fd : FuncData} {k : Nat} (F : Fun K "is_tuple_of" "is_tuple_of" sTupOf f fd) (mi : mg "isinstance" = none) (mt : mg "tuple" = none) (ml : mg "len" = none) :
    FnOk P w K mg base CX0 (k + 1) f fd ["value", "least", "most"] (spTupOf K) := by
  refine F.ok scTupOf (fun vs H Q E h => ?_) (fun cdv A outer s H vs Q E hr h => ?_)
  · obtain ⟨st, r, v, d, a, b, rfl, _⟩ := h; rfl
  · obtain ⟨st, r, v, d, a, b, rfl, hd, q⟩ := h
    refine ⟨_, pss_one (ps_ret (pe_and (pe_callB call_isi (by rfl) mi (by decide +kernel) (pa_cons (pv 0) (pa_cons (pe_bltn (v := .ty "tuple") (by rfl) mt (by decide +kernel) rfl) pa_nil)))
      (pe_one (pe_chain op_le op_le (pv 1) (pe_callB call_len_seq (by rfl) ml PySem.boot_len (pa_cons (pv 0) pa_nil)) (pv 2))))), ?_⟩
    refine ⟨v, rfl, v, .ty "tuple", _, _, _, rfl, .ty _, hd.ty, kit_tup d, _, rfl, ite2 (fun h1 => ?_) (fun h1 => ?_)⟩
    · cases d with
      | tuple ds =>
        cases hd with
        | @tup p xs _ hT ha =>
          refine ⟨.int a, rfl, .ref p, rfl, p, xs, rfl, .inr hT, _, _, rfl, rfl, _, rfl, ite2 (fun h2 => ?_) (fun h2 => ?_)⟩
          · refine ⟨.int b, rfl, _, _, rfl, rfl, ?_⟩
            have h2' : a ≤ (xs.length : Int) := of_decide_eq_true h2
            simpa [tupOfD, ← DqAll.len ha, h2'] using q
          · have h2' : ¬ a ≤ (xs.length : Int) := fun z => h2 (decide_eq_true z)
            simpa [tupOfD, ← DqAll.len ha, h2'] using q
      | _ => simp [isTup] at h1
    · cases d with
      | tuple ds => simp [isTup] at h1
      | _ => exact q
theorem splitD_not {n t : Int} {d : PyData} (h : tupOfD n n d = false) : splitD n t d = false := by
  cases e : intsOf d with
  | none => simp [splitD, e]
  | some row =>
    cases d with
    | tuple ds =>
      have e' : intsAll ds = some row := e
      rw [intsAll_eq e'] at h
      simp only [tupOfD, List.length_map, decide_eq_false_iff_not] at h
      have : ¬ (row.length : Int) = n := by omega
      simp [splitD, e, this]
    | _ => simp [intsOf] at e
theorem splitD_out {n t : Int} {ds : List PyData} (h : ds.all (withinD 0 t) = false) : splitD n t (.tuple ds) = false := by
  cases e : intsAll ds with
  | none => simp [splitD, intsOf, e]
  | some row =>
    have e' := intsAll_eq e
    rw [e', List.all_map] at h
    have : row.all (fun x => decide (0 ≤ x ∧ x ≤ t)) = false := h
    simp only [splitD, intsOf, e, shareOk, this, Bool.false_and, Bool.and_false]
theorem splitD_dI (n t : Int) (row : List Int) : splitD n t (dI row) = (decide ((row.length : Int) = n) && shareOk t row) := by
  simp [splitD, dI, intsOf, intsAll_ints]
def rSumT (K : PySem.W.Frag) : RC := fun xs H Q => ∃ (a : Addr) (ns : List Int), xs = [.ref a] ∧ SqT K H a (ns.map V.int) ∧ Q (.int ns.sum) H
theorem call_sumTQ {X : Cx} (hc : X.calm = true) : CallR X (.builtin "sum") (rSumT X.K) := call_sumT hc
def spSplit (K : PySem.W.Frag) : Sp := fun vs H Q _ => ∃ (st r : Addr) (v : V) (d : PyData) (n t : Int), vs = [v, .int n, .int t] ∧ Dq K st r H v d ∧ n ≤ 1000 ∧ ∀ H', Same H H' → Q (.bl (splitD n t d)) H'
theorem ok_Sp {f fTo fWi : Addr} {fd fdTo fdWi : FuncData} (F : Fun K "is_split" "is_split" sSp f fd)
    (FTo : Fun K "is_tuple_of" "is_tuple_of" sTupOf fTo fdTo) (bTo : Binds K fdTo ["value", "least", "most"] []) (gTo : mg "is_tuple_of" = some (.ref fTo)) (GTo : FnOk P w K mg base CX0 1 fTo fdTo ["value", "least", "most"] (spTupOf K))
    (FWi : Fun K "is_within" "is_within" sWithin fWi fdWi) (bWi : Binds K fdWi ["value", "least", "most"] []) (gWi : mg "is_within" = some (.ref fWi)) (GWi : FnOk P w K mg base CX0 2 fWi fdWi ["value", "least", "most"] (spWithin K))
    (m_all : mg "all" = none) (m_sum : mg "sum" = none) :
    FnOk P w K mg base CX0 3 f fd ["value", "size", "total"] (spSplit K) := by
  refine F.ok scSp (fun vs H Q E h => ?_) (fun cdv A outer s H vs Q E hr h => ?_)
  · obtain ⟨st, r, v, d, n, t, rfl, _⟩ := h; rfl
  · obtain ⟨st, r, v, d, n, t, rfl, hv, hlen, q⟩ := h
    refine ⟨_, pss_cons (ps_if (pt_not (pt_val (pe_call GTo (hr.mono (by omega)) (by rfl) gTo FTo.kp bTo .nil pass0 (pa_cons (pv 0) (pa_cons (pv 1) (pa_cons (pv 1) pa_nil))))))
        (pss_one (ps_ret (pe_bl))) pss_nil)
      (pss_one (ps_ret (pe_and (pe_callB (cr_all rfl) (by rfl) m_all (by decide +kernel) (pa_cons (pe_lc (own := [("number", 3)]) (g := gName 3) (tt := tYes) (te := tCall (spWithin K) [] E0 (tCons (tVar 3) (tCons (tC (.int 0)) (tCons (tVar 2) tNil)))) rfl scSp.nd (pi_tup (pv 0)) (blkOk_by (N := ["value", "size", "total", "number"]) (sc := defScope sSp) (by decide +kernel)) (fun _ _ _ _ _ => pg_name (i := 3) scSp.nd rfl (.inl rfl)) (fun _ _ _ _ _ => pts_nil) (fun _ _ _ _ _ => pe_call GWi (hr.mono (by omega)) (by rfl) gWi FWi.kp bWi .nil pass0 (pa_cons (pv 3) (pa_cons (pe_int) (pa_cons (pv 2) pa_nil))))) pa_nil)) (pe_one (pe_cmpR op_eq (pe_callB (call_sumTQ rfl) (by rfl) m_sum (by decide +kernel) (pa_cons (pv 0) pa_nil)) (pv 2) (nomark _)))))), ?_⟩
    refine ⟨v, rfl, .int n, rfl, .int n, rfl, st, r, v, d, _, _, rfl, hv, ?_⟩
    cases hb : tupOfD n n d with
    | false =>
      refine ⟨_, rfl, iteT ?_⟩
      have := q H (Same.refl H)
      rw [splitD_not hb] at this
      exact this
    | true =>
      refine ⟨_, rfl, iteF ?_⟩
      cases d with
      | tuple ds =>
        cases hv with
        | @tup va xs _ hV ha =>
          have hl := DqAll.len ha
          have hdl : (ds.length : Int) = n := by
            have := of_decide_eq_true hb
            omega
          refine ⟨.ref va, rfl, va, rfl, ⟨_, hV⟩, fun D nD => lc_tup (xs := xs)
            (fun i H2 => Same H H2 ∧ H2 D = some (.lst (((ds.take i).map (withinD 0 t)).map V.bl))) ⟨sameNew nD, upd_same⟩ (fun i H2 _ h2 => (TupK.of h2.1).sq hV) ?_ ?_⟩
          · rintro i x H2 hx ⟨s2, e2⟩
            obtain ⟨dx, hdx, hxd⟩ := DqAll.at ha hx
            have hil : i < ds.length := (List.getElem?_eq_some_iff.mp hdx).1
            refine ⟨rfl, x, rfl, .int t, rfl, st, r, x, dx, 0, t, rfl, hxd.lasts (.of s2), _, e2, ?_, samePut s2 nD, ?_⟩
            · rw [List.length_map, List.length_map, List.length_take]; exact small (by omega)
            · rw [upd_same, List.take_add_one, hdx]; simp
          · rintro H2 ⟨s2, e2⟩
            rw [hl, List.take_length] at e2
            refine ⟨D, _, rfl, SqL.of e2, _, rfl, ite2 (fun h1 => ?_) (fun h1 => ?_)⟩
            · rw [List.all_map] at h1
              obtain ⟨row, er, hrow⟩ := within_ints (show ds.all (withinD 0 t) = true from h1)
              subst er
              have hdp : DpAll K H xs (row.map PyData.int) := DqAll.to_dp (to_ints row) ha
              have hxs := DpAll.ints hdp
              subst hxs
              refine ⟨.ref va, rfl, va, row, rfl, (TupK.of s2).sq hV, .int t, rfl, rfl, ?_⟩
              have e : splitD n t (.tuple (row.map PyData.int)) = decide (V.int row.sum = V.int t) := by
                have e1 := splitD_dI n t row
                unfold dI at e1
                rw [e1]
                rw [List.length_map] at hdl
                unfold shareOk
                rw [hrow, decide_eq_true hdl, Bool.true_and, Bool.true_and]
                simp
              have := q H2 s2
              rw [e] at this
              exact this
            · rw [List.all_map] at h1
              have h2 := Bool.eq_false_iff.mpr h1
              have := q H2 s2
              rw [splitD_out (show ds.all (withinD 0 t) = false from h2)] at this
              have e3 : (List.map (withinD 0 t) ds).all id = false := by rw [List.all_map]; exact h2
              first | exact this | (rw [e3]; exact this)
      | _ => simp [tupOfD] at hb
/-! loads -/
theorem rowLoads_take {ls ps row : List Int} {i : Nat} {p x : Int} (hp : ps[i]? = some p) (hx : row[i]? = some x) : rowLoads ls (ps.take (i + 1)) (row.take (i + 1)) = addAt (rowLoads ls (ps.take i) (row.take i)) p x := by
  have h1 : ps.take (i + 1) = ps.take i ++ [p] := by rw [List.take_add_one, hp]; rfl
  have h2 : row.take (i + 1) = row.take i ++ [x] := by rw [List.take_add_one, hx]; rfl
  have l1 := (List.getElem?_eq_some_iff.mp hp).1
  have l2 := (List.getElem?_eq_some_iff.mp hx).1
  unfold rowLoads
  rw [h1, h2, List.zip_append (by rw [List.length_take, List.length_take]; omega), List.foldl_append]
  rfl
theorem loadsFrom_take {ls : List Int} {gs : List Gp} {rows : List (List Int)} {i : Nat} {g : Gp} {row : List Int} (hp : gs[i]? = some g) (hx : rows[i]? = some row) :
    loadsFrom ls (gs.take (i + 1)) (rows.take (i + 1)) = rowLoads (loadsFrom ls (gs.take i) (rows.take i)) g.1 row := by
  have h1 : gs.take (i + 1) = gs.take i ++ [g] := by rw [List.take_add_one, hp]; rfl
  have h2 : rows.take (i + 1) = rows.take i ++ [row] := by rw [List.take_add_one, hx]; rfl
  have l1 := (List.getElem?_eq_some_iff.mp hp).1
  have l2 := (List.getElem?_eq_some_iff.mp hx).1
  unfold loadsFrom
  rw [h1, h2, List.zip_append (by rw [List.length_take, List.length_take]; omega), List.foldl_append]
  rfl
end
end Pv

namespace Pv
open PySem PySem.Spec PyProof.Rows L2
theorem rowLoads_all (ls ps row : List Int) : rowLoads ls (ps.take (min ps.length row.length)) (row.take (min ps.length row.length)) = rowLoads ls ps row := by
  unfold rowLoads
  rw [zip_take, List.take_of_length_le (by rw [List.length_zip]; exact Nat.le_refl _)]
theorem loadsFrom_all (ls : List Int) (gs : List Gp) (rows : List (List Int)) : loadsFrom ls (gs.take (min gs.length rows.length)) (rows.take (min gs.length rows.length)) = loadsFrom ls gs rows := by
  unfold loadsFrom
  rw [zip_take, List.take_of_length_le (by rw [List.length_zip]; exact Nat.le_refl _)]
def InR (n : Nat) (gs : List Gp) : Prop := ∀ g ∈ gs, g.1.length ≤ 1000 ∧ ∀ p ∈ g.1, 0 ≤ p ∧ p < (n : Int)
def loadsOf (n : Nat) (gs : List Gp) (rows : List (List Int)) : List Int := loadsFrom (zeros n) gs rows
abbrev sLoads : Stmt := topS 7
-- gone: _law_loads
theorem scLoads : FnScope ["instance", "assignment", "loads", "group", "share", "post", "number"] ["instance", "assignment"] (defScope sLoads) := ⟨rfl, rfl, rfl, by decide +kernel, rfl, by decide +kernel, by decide +kernel⟩
section
variable {P : Program} {w : World} {K : PySem.W.Frag} {mg : Str → Option Value} {base : Heap}
def spLoads (K : PySem.W.Frag) : Sp := fun vs H Q _ => ∃ (i a : Addr) (cs : List Int) (gs : List Gp) (rows : List (List Int)), vs = [.ref i, .ref a] ∧ Dp K H (.ref i) (dInst cs gs) ∧ Dp K H (.ref a) (dAsg rows) ∧
  cs.length ≤ 1000 ∧ InR cs.length gs ∧ ∀ H' p, Same H H' → Dp K H' (.ref p) (dI (loadsOf cs.length gs rows)) → Q (.ref p) H'
set_option maxHeartbeats 2000000 in
theorem ok_loads {f : Addr} {fd : FuncData} {k : Nat} (F : Fun K "post_loads" "post_loads" sLoads f fd) (ml : mg "len" = none) (mz : mg "zip" = none) (mt : mg "tuple" = none) :
    FnOk P w K mg base CX0 (k + 1) f fd ["instance", "assignment"] (spLoads K) := by
  refine F.ok scLoads (fun vs H Q E h => ?_) (fun cdv A outer s H vs Q E hr h => ?_)
  · obtain ⟨i, a, cs, gs, rows, rfl, _⟩ := h; rfl
  · obtain ⟨i, a, cs, gs, rows, rfl, hI, hA, hcs, hin, q⟩ := h
    refine ⟨_, pss_cons (ps_set (i := 2) scLoads.nd rfl (.inl rfl) (pe_op op_rep (pe_lst (pa_cons pe_int pa_nil)) (pe_callB call_len_seq (by rfl) ml PySem.boot_len (pa_cons (pe_ix ix_tup (pv 0) pe_int (fun _ _ => rfl)) pa_nil))))
      (pss_cons (ps_for PassesOwn.never rfl (RZ.pi_zipA (by rfl) mz (pa_cons (pe_ix ix_tup (pv 0) pe_int (fun _ _ => rfl)) (pa_cons (pv 1) pa_nil)))
          (pg_tup rfl (pgs_cons (pg_name (i := 3) scLoads.nd rfl (.inl rfl)) (pgs_cons (pg_name (i := 4) scLoads.nd rfl (.inl rfl)) pgs_nil)))
          (pss_one (ps_for PassesOwn.never rfl (RZ.pi_zipA (by rfl) mz (pa_cons (pe_ix ix_tup (pv 3) pe_int (fun _ _ => rfl)) (pa_cons (pv 4) pa_nil)))
            (pg_tup rfl (pgs_cons (pg_name (i := 5) scLoads.nd rfl (.inl rfl)) (pgs_cons (pg_name (i := 6) scLoads.nd rfl (.inl rfl)) pgs_nil)))
            (pss_one (ps_augS (pv 2) (pv 5) get_list (pv 6) ip_add set_list)))))
      (pss_one (ps_ret (pe_callTy call_tuple_of (by rfl) mt (by decide +kernel) (pa_cons (pv 2) pa_nil))))), ?_⟩
    obtain ⟨_, ca, ga, xs, e, hi, hc, hg, hgs⟩ := inst_open hI
    cases e
    obtain ⟨_, ys, e, ha, hrows⟩ := asg_open hA
    cases e
    -- loads = [0] * len(instance[0])
    refine ⟨by decide, fun p0 n0 => ⟨.ref i, rfl, i, _, 0, .ref ca, rfl, rfl, (TupK.new n0).sq hi, atI_nat (j := 0) rfl, ca, _, rfl, .inr ((TupK.new n0).sq hc), p0, _, _, rfl, rfl, upd_same, by omega, ?_, ?_, fun L nL => ?_⟩⟩
    · rw [List.length_map]; omega
    · rw [List.length_map]; show 1 * _ ≤ sizeLine; have := small (n := cs.length) (by omega); simp; omega
    have fL : H L = none := freeOf nL
    have s1 : Same H (upd (upd H p0 (.lst [.int 0])) L (.lst (List.replicate ((List.map V.int cs).length : Int).toNat [V.int 0]).flatten)) := samePut (sameNew n0) fL
    -- the groups
    refine ⟨.ref i, rfl, i, _, 1, .ref ga, rfl, rfl, (TupK.of s1).sq hi, atI_nat (j := 1) rfl, .ref a, rfl, ga, a, xs, ys, rfl, .inr ⟨(TupK.of s1).sq hg, (TupK.of s1).sq ha, for_it (walk_zipT (K := K) (a := ga) (b := a) (xs := xs) (ys := ys) rfl)
      (fun i' σ H2 => ∃ y3 y4 y5 y6, σ = [some (.ref i), some (.ref a), some (.ref L), y3, y4, y5, y6] ∧ Same H H2 ∧ H2 L = some (.lst ((loadsFrom (zeros cs.length) (gs.take i') (rows.take i')).map V.int)))
      ⟨none, none, none, none, rfl, s1, ?_⟩ ?_ ?_ ?_⟩⟩
    · rw [upd_same, zeros_V, List.length_map]; simp [loadsFrom]
    · rintro i' σ H2 _ ⟨y3, y4, y5, y6, rfl, s2, e2⟩
      exact ⟨(TupK.of s2).sq hg, (TupK.of s2).sq ha⟩
    · rintro i' v σ H2 H3 hlt ⟨y3, y4, y5, y6, rfl, s2, e2⟩ ⟨T, x, y, rfl, nT, rfl, hx, hy⟩
      have hx' : xs[i']? = some x := hx
      have hy' : ys[i']? = some y := hy
      obtain ⟨d, hd, hxd⟩ := DpAll.at hgs hx'
      rw [List.getElem?_map] at hd
      obtain ⟨g, hgi, rfl⟩ := Option.map_eq_some_iff.mp hd
      obtain ⟨d, hd, hyd⟩ := DpAll.at hrows hy'
      rw [List.getElem?_map] at hd
      obtain ⟨row, hri, rfl⟩ := Option.map_eq_some_iff.mp hd
      have s3 : Same H (upd H2 T (.tup [x, y])) := s2.trans (sameNew nT)
      obtain ⟨gA, pA, rfl, hG, hP⟩ := grp_ref hxd
      obtain ⟨rA, rfl, hR⟩ := dI_ref hyd
      have e3 : (upd H2 T (.tup [.ref gA, .ref rA])) L = some (.lst ((loadsFrom (zeros cs.length) (gs.take i') (rows.take i')).map V.int)) := upNew nT e2
      have tk3 := TupK.of s3
      refine ⟨T, _, rfl, SqT.of upd_same, rfl, _, _, rfl, _, _, rfl, rfl, ?_⟩
      refine ⟨.ref gA, rfl, gA, _, 0, .ref pA, rfl, rfl, tk3.sq hG, atI_nat (j := 0) rfl, .ref rA, rfl, pA, rA, _, _, rfl, .inr ⟨tk3.sq hP, tk3.sq hR, for_it (walk_zipT (K := K) (a := pA) (b := rA) (xs := g.1.map V.int) (ys := row.map V.int) rfl)
        (fun j σ H4 => ∃ y5 y6, σ = [some (.ref i), some (.ref a), some (.ref L), some (.ref gA), some (.ref rA), y5, y6] ∧ Same H H4 ∧
          H4 L = some (.lst ((rowLoads (loadsFrom (zeros cs.length) (gs.take i') (rows.take i')) (g.1.take j) (row.take j)).map V.int)))
        ⟨y5, y6, rfl, s3, by simpa [rowLoads] using e3⟩ ?_ ?_ ?_⟩⟩
      · rintro j σ H4 _ ⟨y5, y6, rfl, s4, e4⟩
        exact ⟨(TupK.of s4).sq hP, (TupK.of s4).sq hR⟩
      · rintro j v σ H4 H5 hltj ⟨y5, y6, rfl, s4, e4⟩ ⟨T2, x, y, rfl, nT2, rfl, hx2, hy2⟩
        have hx2' : (g.1.map V.int)[j]? = some x := hx2
        have hy2' : (row.map V.int)[j]? = some y := hy2
        rw [List.getElem?_map] at hx2' hy2'
        obtain ⟨pp, hpp, rfl⟩ := Option.map_eq_some_iff.mp hx2'
        obtain ⟨nn, hnn, rfl⟩ := Option.map_eq_some_iff.mp hy2'
        have e5 := upNew (o := .tup [.int pp, .int nn]) nT2 e4
        have hpr := (hin g (List.mem_of_getElem? hgi)).2 pp (List.mem_of_getElem? hpp)
        obtain ⟨pn, rfl⟩ : ∃ pn : Nat, pp = pn := ⟨pp.toNat, by omega⟩
        have hrl := rowLoads_take (ls := loadsFrom (zeros cs.length) (gs.take i') (rows.take i')) hpp hnn
        generalize hcur : rowLoads (loadsFrom (zeros cs.length) (gs.take i') (rows.take i')) (g.1.take j) (row.take j) = cur at e4 e5 hrl
        have hcl : cur.length = cs.length := by rw [← hcur, rowLoads_len, loadsFrom_len]; simp [zeros]
        have hpl : pn < cur.length := by omega
        refine ⟨T2, _, rfl, SqT.of upd_same, rfl, _, _, rfl, _, _, rfl, rfl, ?_⟩
        refine ⟨.ref L, rfl, .int pn, rfl, L, _, pn, .int cur[pn], rfl, rfl, SqL.of e5, by rw [List.getElem?_map, List.getElem?_eq_getElem hpl]; rfl, .int nn, rfl, _, _, rfl, rfl, L, _, _, pn, rfl, rfl, e5, ixN_nat (by rw [List.length_map]; exact hpl), ?_⟩
        refine ⟨_, _, rfl, samePut (s4.trans (sameNew nT2)) fL, ?_⟩
        rw [upd_same, hrl]
        unfold addAt
        rw [Int.toNat_natCast, List.getD_eq_getElem?_getD, List.getElem?_eq_getElem hpl, List.map_set]
        rfl
      · rintro σ H4 ⟨y5, y6, rfl, s4, e4⟩
        refine ⟨_, _, _, _, rfl, s4, ?_⟩
        rw [loadsFrom_take hgi hri]
        rw [List.length_map, List.length_map, rowLoads_all] at e4
        exact e4
    · rintro σ H2 ⟨y3, y4, y5, y6, rfl, s2, e2⟩
      rw [DpAll.len hgs, DpAll.len hrows, List.length_map, List.length_map, loadsFrom_all] at e2
      refine ⟨.ref L, rfl, L, _, rfl, .inl ⟨SqL.of e2, fun p np => q _ _ (s2.trans (sameNew np)) (dI_sq (SqT.of upd_same))⟩⟩
end
end Pv

namespace Pv
open PySem PySem.Spec PyProof.Rows L2
def rowD (d : PyData) : List Int := (intsOf d).getD []
def isAD (cs : List Int) (gs : List Gp) : PyData → Bool
  | .tuple ds => decide (ds.length = gs.length) && ((gs.zip ds).all (fun q => shareD q.1 q.2) && ((loadsOf cs.length gs (ds.map rowD)).zip cs).all (fun q => decide (q.1 ≤ q.2)))
  | _ => false
theorem isAD_tup (cs : List Int) (gs : List Gp) (ds : List PyData) : isAD cs gs (.tuple ds) = (decide (ds.length = gs.length) && ((gs.zip ds).all (fun q => shareD q.1 q.2) && ((loadsOf cs.length gs (ds.map rowD)).zip cs).all (fun q => decide (q.1 ≤ q.2)))) := rfl
theorem shareD_row {g : Gp} {d : PyData} (h : shareD g d = true) : d = dI (rowD d) ∧ (rowD d).length = g.1.length + 1 ∧ shareOk g.2 (rowD d) = true := by
  unfold shareD at h
  cases e : intsOf d with
  | none => rw [e] at h; simp at h
  | some row =>
    rw [e] at h
    have hr : rowD d = row := by unfold rowD; rw [e]; rfl
    rw [hr]
    have h' : decide (row.length = g.1.length + 1) = true ∧ shareOk g.2 row = true := by simpa using h
    refine ⟨?_, of_decide_eq_true h'.1, h'.2⟩
    cases d with
    | tuple ds => have e' : intsAll ds = some row := e; rw [intsAll_eq e']; rfl
    | _ => simp [intsOf] at e
theorem rows_all : ∀ {gs : List Gp} {ds : List PyData}, ds.length = gs.length → (gs.zip ds).all (fun q => shareD q.1 q.2) = true → ds = (ds.map rowD).map dI
  | [], ds, hl, _ => by
    cases ds with
    | nil => rfl
    | cons d ds => simp at hl
  | g :: gs, ds, hl, h => by
    cases ds with
    | nil => rfl
    | cons d ds =>
      rw [List.zip_cons_cons, List.all_cons, Bool.and_eq_true] at h
      have e1 := (shareD_row h.1).1
      have e2 := rows_all (gs := gs) (ds := ds) (by simpa using hl) h.2
      rw [List.map_cons, List.map_cons, ← e1, ← e2]
theorem zip_at {gs : List Gp} {ds : List PyData} (h : (gs.zip ds).all (fun q => shareD q.1 q.2) = true) {i : Nat} {g : Gp} {d : PyData} (hg : gs[i]? = some g) (hd : ds[i]? = some d) : shareD g d = true := by
  have hm : (g, d) ∈ gs.zip ds := List.mem_of_getElem? (i := i) (by rw [List.getElem?_zip_eq_some]; exact ⟨hg, hd⟩)
  exact List.all_eq_true.mp h _ hm
abbrev sIA : Stmt := topS 6
theorem scIA : FnScope ["instance", "value", "capacities", "groups", "posts", "count", "share", "load", "capacity"] ["instance", "value"] (defScope sIA) := ⟨rfl, rfl, rfl, by decide +kernel, rfl, by decide +kernel, by decide +kernel⟩
section
variable {P : Program} {w : World} {K : PySem.W.Frag} {mg : Str → Option Value} {base : Heap}
def spIsA (K : PySem.W.Frag) : Sp := fun vs H Q _ => ∃ (st r i : Addr) (v : V) (cs : List Int) (gs : List Gp) (d : PyData), vs = [.ref i, v] ∧ Dp K H (.ref i) (dInst cs gs) ∧ Dq K st r H v d ∧
  cs.length ≤ 900 ∧ gs.length ≤ 900 ∧ InR cs.length gs ∧ (∀ g ∈ gs, g.1.length ≤ 900) ∧ ∀ H', Same H H' → Q (.bl (isAD cs gs d)) H'
set_option maxHeartbeats 2000000 in
theorem ok_IA {f fTo fSp fLo : Addr} {fd fdTo fdSp fdLo : FuncData} (F : Fun K "is_assignment" "is_assignment" sIA f fd)
    (FTo : Fun K "is_tuple_of" "is_tuple_of" sTupOf fTo fdTo) (bTo : Binds K fdTo ["value", "least", "most"] []) (gTo : mg "is_tuple_of" = some (.ref fTo)) (GTo : FnOk P w K mg base CX0 1 fTo fdTo ["value", "least", "most"] (spTupOf K))
    (FSp : Fun K "is_split" "is_split" sSp fSp fdSp) (bSp : Binds K fdSp ["value", "size", "total"] []) (gSp : mg "is_split" = some (.ref fSp)) (GSp : FnOk P w K mg base CX0 3 fSp fdSp ["value", "size", "total"] (spSplit K))
    (FLo : Fun K "post_loads" "post_loads" sLoads fLo fdLo) (bLo : Binds K fdLo ["instance", "assignment"] []) (gLo : mg "post_loads" = some (.ref fLo)) (GLo : FnOk P w K mg base CX0 1 fLo fdLo ["instance", "assignment"] (spLoads K))
    (m_len : mg "len" = none) (m_zip : mg "zip" = none) (m_all : mg "all" = none) :
    FnOk P w K mg base CX0 4 f fd ["instance", "value"] (spIsA K) := by
  refine F.ok scIA (fun vs H Q E h => ?_) (fun cdv A outer s H vs Q E hr h => ?_)
  · obtain ⟨st, r, i, v, cs, gs, d, rfl, _⟩ := h; rfl
  · obtain ⟨st, r, i, v, cs, gs, d, rfl, hI, hA, hcs, hgn, hin, hgl, q⟩ := h
    refine ⟨_, pss_cons (ps_asg (pv 0) (pg_tup rfl (pgs_cons (pg_name (i := 2) scIA.nd rfl (.inl rfl)) (pgs_cons (pg_name (i := 3) scIA.nd rfl (.inl rfl)) pgs_nil))))
      (pss_cons (ps_if (pt_not (pt_val (pe_call GTo (hr.mono (by omega)) (by rfl) gTo FTo.kp bTo .nil pass0 (pa_cons (pv 1) (pa_cons (pe_callB call_lenQ (by rfl) m_len PySem.boot_len (pa_cons (pv 3) pa_nil)) (pa_cons (pe_callB call_lenQ (by rfl) m_len PySem.boot_len (pa_cons (pv 3) pa_nil)) pa_nil))))))
        (pss_one (ps_ret (pe_bl))) pss_nil)
      (pss_cons (ps_if (pt_not (pt_val (pe_callB (cr_all rfl) (by rfl) m_all (by decide +kernel) (pa_cons (pe_lc (own := [("posts", 4), ("count", 5), ("share", 6)]) (g := gTup K 2 (gCons (gTup K 2 (gCons (gName 4) (gCons (gName 5) gNil))) (gCons (gName 6) gNil))) (tt := tYes) (te := tCall (spSplit K) [] E0 (tCons (tVar 6) (tCons (tOp (rI0 fun i j => .int (i + j)) (tCB (rLenQ K) (tCons (tVar 4) tNil)) (tC (.int 1))) (tCons (tVar 5) tNil)))) rfl scIA.nd (RZ.pi_zipA (by rfl) m_zip (pa_cons (pv 3) (pa_cons (pv 1) pa_nil))) (blkOk_by (N := ["instance", "value", "capacities", "groups", "posts", "count", "share", "load", "capacity"]) (sc := defScope sIA) (by decide +kernel)) (fun _ _ _ _ _ => pg_tup rfl (pgs_cons (pg_tup rfl (pgs_cons (pg_name (i := 4) scIA.nd rfl (.inl rfl)) (pgs_cons (pg_name (i := 5) scIA.nd rfl (.inl rfl)) pgs_nil))) (pgs_cons (pg_name (i := 6) scIA.nd rfl (.inl rfl)) pgs_nil))) (fun _ _ _ _ _ => pts_nil) (fun _ _ _ _ _ => pe_call GSp (hr.mono (by omega)) (by rfl) gSp FSp.kp bSp .nil pass0 (pa_cons (pv 6) (pa_cons (pe_op op_add (pe_callB call_lenQ (by rfl) m_len PySem.boot_len (pa_cons (pv 4) pa_nil)) (pe_int)) (pa_cons (pv 5) pa_nil))))) pa_nil))))
        (pss_one (ps_ret (pe_bl))) pss_nil)
      (pss_one (ps_ret (pe_callB (cr_all rfl) (by rfl) m_all (by decide +kernel) (pa_cons (pe_lc (own := [("load", 7), ("capacity", 8)]) (g := gTup K 2 (gCons (gName 7) (gCons (gName 8) gNil))) (tt := tYes) (te := tOp (rI0 fun i j => .bl (decide (i ≤ j))) (tVar 7) (tVar 8)) rfl scIA.nd (RZ.pi_zipA (by rfl) m_zip (pa_cons (pe_call GLo (hr.mono (by omega)) (by rfl) gLo FLo.kp bLo .nil pass0 (pa_cons (pv 0) (pa_cons (pv 1) pa_nil))) (pa_cons (pv 2) pa_nil))) (blkOk_by (N := ["instance", "value", "capacities", "groups", "posts", "count", "share", "load", "capacity"]) (sc := defScope sIA) (by decide +kernel)) (fun _ _ _ _ _ => pg_tup rfl (pgs_cons (pg_name (i := 7) scIA.nd rfl (.inl rfl)) (pgs_cons (pg_name (i := 8) scIA.nd rfl (.inl rfl)) pgs_nil))) (fun _ _ _ _ _ => pts_nil) (fun _ _ _ _ _ => pe_cmpR op_le (pv 7) (pv 8) (nomark _))) pa_nil)))))), ?_⟩
    obtain ⟨_, ca, ga, xs, e, hi, hc, hg, hgs⟩ := inst_open hI
    cases e
    have lx := DpAll.len hgs
    rw [List.length_map] at lx
    refine ⟨.ref i, rfl, i, _, rfl, hi, rfl, .ref ca, _, rfl, .ref ga, _, rfl, rfl, ?_⟩
    refine ⟨v, rfl, .ref ga, rfl, ga, xs, rfl, .inr hg, .ref ga, rfl, ga, xs, rfl, .inr hg, st, r, v, d, _, _, rfl, hA, ?_⟩
    rw [lx]
    cases hb : tupOfD (gs.length : Int) (gs.length : Int) d with
    | false =>
      refine ⟨_, rfl, iteT ?_⟩
      have e : isAD cs gs d = false := by
        cases d with
        | tuple ds =>
          have h1 := of_decide_eq_false hb
          have : ¬ ds.length = gs.length := by omega
          simp [isAD, this]
        | _ => rfl
      have := q H (Same.refl H)
      rw [e] at this
      exact this
    | true =>
    refine ⟨_, rfl, iteF ?_⟩
    cases d with
    | none | bool _ | int _ | str _ | list _ | dict _ => simp [tupOfD] at hb
    | tuple ds =>
    cases hA with
    | @tup a ys _ ha hds =>
    have ly := DqAll.len hds
    have hdl : ds.length = gs.length := by have := of_decide_eq_true hb; omega
    refine ⟨.ref ga, rfl, .ref a, rfl, ga, a, xs, ys, rfl, .inr ⟨hg, ha, fun D nD => lc_it (walk_zipT (K := K) (a := ga) (b := a) (xs := xs) (ys := ys) rfl)
      (fun j H2 => Same H H2 ∧ H2 D = some (.lst ((((gs.take j).zip (ds.take j)).map (fun q => shareD q.1 q.2)).map V.bl))) ⟨sameNew nD, upd_same⟩ (fun j H2 _ h2 => ⟨(TupK.of h2.1).sq hg, (TupK.of h2.1).sq ha⟩) ?_ ?_⟩⟩
    · rintro j v H2 H3 hlt ⟨s2, e2⟩ ⟨T, x, y, rfl, nT, rfl, hx, hy⟩
      have hx' : xs[j]? = some x := hx
      have hy' : ys[j]? = some y := hy
      obtain ⟨d, hd, hxd⟩ := DpAll.at hgs hx'
      rw [List.getElem?_map] at hd
      obtain ⟨g, hgi, rfl⟩ := Option.map_eq_some_iff.mp hd
      obtain ⟨dy, hdy, hyd⟩ := DqAll.at hds hy'
      obtain ⟨gA, pA, rfl, hG, hP⟩ := grp_ref hxd
      have s3 : Same H (upd H2 T (.tup [.ref gA, y])) := s2.trans (sameNew nT)
      have tk3 := TupK.of s3
      have hgl' := hgl g (List.mem_of_getElem? hgi)
      have hjl : j < gs.length := (List.getElem?_eq_some_iff.mp hgi).1
      refine ⟨T, _, rfl, SqT.of upd_same, rfl, _, _, rfl, gA, _, rfl, tk3.sq hG, rfl, _, _, rfl, _, _, rfl, rfl, _, _, rfl, rfl, rfl, y, rfl, .ref pA, rfl, pA, _, rfl, .inr (tk3.sq hP), _, _, rfl, rfl, .int g.2, rfl, st, r, y, dy, _, _, rfl, hyd.lasts (.of s3), by rw [List.length_map]; omega, fun H4 s4 => ⟨_, s4 _ _ (upNew nT e2), ?_, samePut (s3.trans s4) nD, ?_⟩⟩
      · rw [List.length_map, List.length_map, List.length_zip, List.length_take]; exact small (by omega)
      · rw [upd_same, zip_snoc hgi hdy, List.length_map, split_share]; simp
    · rintro H2 ⟨s2, e2⟩
      rw [lx, ly, zip_take, List.take_of_length_le (by rw [List.length_zip]; exact Nat.le_refl _)] at e2
      refine ⟨D, _, rfl, SqL.of e2, _, rfl, ?_⟩
      have tk2 := TupK.of s2
      cases hall : ((gs.zip ds).map (fun q => shareD q.1 q.2)).all id with
      | false =>
        have e : isAD cs gs (.tuple ds) = false := by
          rw [isAD_tup]
          rw [List.all_map] at hall
          rw [show (gs.zip ds).all (fun q => shareD q.1 q.2) = false from hall, Bool.false_and, Bool.and_false]
        have := q H2 s2
        rw [e] at this
        exact this
      | true =>
        rw [List.all_map] at hall
        have hall' : (gs.zip ds).all (fun q => shareD q.1 q.2) = true := hall
        have e : isAD cs gs (.tuple ds) = ((loadsOf cs.length gs (ds.map rowD)).zip cs).all (fun q => decide (q.1 ≤ q.2)) := by
          rw [isAD_tup, hall', Bool.true_and, decide_eq_true hdl, Bool.true_and]
        have hR := rows_all hdl hall'
        generalize hrw : ds.map rowD = rows at e hR
        have hA2 : Dp K H (.ref a) (dAsg rows) := by
          have : Dq K st r H (.ref a) (dAsg rows) := by unfold dAsg; rw [← hR]; exact .tup ha hds
          exact this.to_dp (to_dAsg rows)
        refine ⟨.ref i, rfl, .ref a, rfl, i, a, cs, gs, rows, rfl, tk2.dp _ _ (to_dInst _ _) hI, tk2.dp _ _ (to_dAsg _) hA2, by omega, hin, fun H3 p s3 hp => ?_⟩
        have sp := sq_dI hp
        have s03 := s2.trans s3
        have hc3 := (TupK.of s03).sq hc
        refine ⟨.ref ca, rfl, p, ca, _, _, rfl, .inr ⟨sp, hc3, fun D2 nD2 => lc_it (walk_zipT (K := K) (a := p) (b := ca) (xs := (loadsOf cs.length gs rows).map V.int) (ys := cs.map V.int) rfl)
          (fun j H4 => Same H3 H4 ∧ H4 D2 = some (.lst (((((loadsOf cs.length gs rows).take j).zip (cs.take j)).map (fun q => decide (q.1 ≤ q.2))).map V.bl))) ⟨sameNew nD2, upd_same⟩ (fun j H4 _ h4 => ⟨(TupK.of h4.1).sq sp, (TupK.of h4.1).sq hc3⟩) ?_ ?_⟩⟩
        · rintro j v H4 H5 hlt ⟨s4, e4⟩ ⟨T, x, y, rfl, nT, rfl, hx, hy⟩
          have hx' : ((loadsOf cs.length gs rows).map V.int)[j]? = some x := hx
          have hy' : (cs.map V.int)[j]? = some y := hy
          rw [List.getElem?_map] at hx' hy'
          obtain ⟨l, hl, rfl⟩ := Option.map_eq_some_iff.mp hx'
          obtain ⟨c, hcj, rfl⟩ := Option.map_eq_some_iff.mp hy'
          have hjl : j < cs.length := (List.getElem?_eq_some_iff.mp hcj).1
          refine ⟨T, _, rfl, SqT.of upd_same, rfl, _, _, rfl, _, _, rfl, rfl, rfl, .int l, rfl, .int c, rfl, _, _, rfl, rfl, _, upNew nT e4, ?_, samePut (s4.trans (sameNew nT)) nD2, ?_⟩
          · rw [List.length_map, List.length_map, List.length_zip, List.length_take, List.length_take]; exact small (by omega)
          · rw [upd_same, zip_snoc hl hcj]; simp
        · rintro H4 ⟨s4, e4⟩
          rw [List.length_map, List.length_map, zip_take, List.take_of_length_le (by rw [List.length_zip]; exact Nat.le_refl _)] at e4
          refine ⟨D2, _, rfl, SqL.of e4, ?_⟩
          have := q H4 (s03.trans s4)
          rw [e] at this
          rw [List.all_map]
          exact this
end
end Pv

set_option maxHeartbeats 1000000
/-! zip(*rows) over tuples, a name as the target -/
namespace ZS
open PySem
abbrev ZAt (h : Heap) (z TI TO : Addr) (f0 : Value) (f1 : Bool) : Prop :=
  h.get? z = some { cls := .type "zip", dict := none, data := .fields #[f0, .bool f1, .bool false, .ref TI, .ref TO], slots := #[] }
abbrev TAt (h : Heap) (T : Addr) (xs : List Value) : Prop := h.get? T = some { cls := .type "tuple", data := .seq xs.toArray }
def itsOf (b n : Nat) : List Value := (List.range n).map fun k => .ref (b + k)
theorem its_len (b n : Nat) : (itsOf b n).length = n := by simp [itsOf]
theorem its_at {b n k : Nat} (h : k < n) : (itsOf b n)[k]? = some (.ref (b + k)) := by simp [itsOf, h]
/-- where the zip's own objects stand: the iterators from b on, then the tuple of them, the tuple it keeps, the zip -/
structure St0 (h : Heap) (b : Nat) (rows : List Addr) (f0 : Value) (f1 : Bool) (at_ : Nat → Nat) : Prop where
  zip : ZAt h (b + rows.length + 2) (b + rows.length) (b + rows.length + 1) f0 f1
  ti : TAt h (b + rows.length) (itsOf b rows.length)
  to : ∃ kept : List Value, kept.length = rows.length ∧ TAt h (b + rows.length + 1) kept
  it : ∀ (k : Nat) (row : Addr), rows[k]? = some row → h.IsTupleIter (b + k) row (at_ k)
/-- what is not the zip's own stays -/
def Off (b n : Nat) (h h' : Heap) : Prop := ∀ c o, (c < b ∨ b + n + 2 < c) → h.get? c = some o → h'.get? c = some o
theorem Off.refl (b n : Nat) (h : Heap) : Off b n h h := fun _ _ _ e => e
theorem Off.trans {b n : Nat} {h h1 h2 : Heap} (x : Off b n h h1) (y : Off b n h1 h2) : Off b n h h2 := fun c o r e => y c o r (x c o r e)
theorem Off.but {b n c0 : Nat} {h h' : Heap} (e : Heap.SameBut c0 h h') (hc : b ≤ c0 ∧ c0 ≤ b + n + 2) : Off b n h h' := fun c o r x => by
  rw [e.2 c (fun z => by subst z; omega)]; exact x
section
variable {prog : Program} {w : World} {A : Around} {E : Value → Shared → Prop} {s : Shared}
theorem alive {a : Addr} {Q : Option Obj → Shared → Prop} (h : Q (s.heap.get? a) s) : wpAny (model prog w) A (loadIfAlive a) Q E s := by
  intro Γ p hΓ
  unfold loadIfAlive
  rw [Sem.wp_loadIfAlive]
  exact wpAny_pure h Γ p hΓ
theorem nextOf_item {it l : Addr} {i : Nat} {items} {x : Value} {Q : Value → Shared → Prop} (hit : s.heap.IsTupleIter it l i) (hl : s.heap.IsTuple l items) (hx : items[i]? = some x)
    (hQ : ∀ h', h'.IsTupleIter it l (i + 1) → Heap.SameBut it s.heap h' → Q x { s with heap := h' }) : wpAny (model prog w) A (Builtin.SmallTypes.nextOf (.ref it)) Q E s := RZ.nextOf_tuple_item hit hl hx hQ
/-- the draws, one iterator after another, into the tuple that the zip keeps -/
structure Half (s : Shared) (b : Nat) (rows : List Addr) (i : Nat) (col : List Value) (f0 : Value) (f1 : Bool) (k : Nat) (s' : Shared) : Prop where
  ex : ∃ h', s' = { s with heap := h' } ∧ h'.objs.size = s.heap.objs.size ∧ Off b rows.length s.heap h' ∧ ZAt h' (b + rows.length + 2) (b + rows.length) (b + rows.length + 1) f0 f1 ∧ TAt h' (b + rows.length) (itsOf b rows.length) ∧
    (∃ kept : List Value, kept.length = rows.length ∧ TAt h' (b + rows.length + 1) kept ∧ kept.take k = col.take k) ∧ ∀ (j : Nat) (row : Addr), rows[j]? = some row → h'.IsTupleIter (b + j) row (if j < k then i + 1 else i)
theorem ne_nat {a b : Nat} (h : ¬ (a = b)) : (show Addr from a) ≠ (show Addr from b) := h
theorem tuple_off {b n : Nat} {h h' : Heap} {l : Addr} {items : Array Value} (x : Off b n h h') (hl : l < b) (ht : h.IsTuple l items) : h'.IsTuple l items := by
  obtain ⟨o, ho, r⟩ := ht
  exact ⟨o, x l o (.inl hl) ho, r⟩
end
end ZS

namespace ZS
open PySem
section
variable {prog : Program} {w : World} {A : Around} {E : Value → Shared → Prop} {s : Shared}
theorem own_free {z TI TO : Addr} {f0 : Value} {f1 : Bool} (hz : ZAt s.heap z TI TO f0 f1) (hf : f0 = .none ∨ ∃ a : Nat, f0 = rawInt a) :
    wpAny (model prog w) A (Builtin.SmallTypes.ownedTupleIsFree (.ref z)) (fun r s' => (r = true ∧ s' = s) ∨ (r = false ∧ ∃ h', s' = { s with heap := h' } ∧ ZAt h' z TI TO f0 true ∧ Heap.SameBut z s.heap h')) E s := by
  unfold Builtin.SmallTypes.ownedTupleIsFree
  rcases hf with rfl | ⟨a, rfl⟩
  · exact wpAny_bind (wpAny_field hz rfl (x := .none) rfl (wpAny_pure (.inl ⟨rfl, rfl⟩)))
  · refine wpAny_bind (wpAny_field hz rfl (x := rawInt a) rfl ?_)
    show wpAny _ _ (loadIfAlive (Int.toNat a) >>= _) _ _ _
    refine wpAny_bind (alive ?_)
    rw [Int.toNat_natCast]
    cases e : s.heap.get? a with
    | none => exact wpAny_pure (.inl ⟨rfl, rfl⟩)
    | some o =>
      show wpAny _ _ (field (.ref z) 1 >>= _) _ _ _
      refine wpAny_bind (wpAny_field hz rfl (x := .bool f1) rfl ?_)
      cases f1 with
      | true => exact wpAny_pure (.inr ⟨rfl, s.heap, rfl, hz, ⟨rfl, fun _ _ => rfl⟩⟩)
      | false =>
        show wpAny _ _ (setField (.ref z) 1 (.bool true) >>= _) _ _ _
        exact wpAny_bind (wpAny_setField_rec hz (by simp) fun h' hz' hs' => wpAny_pure (.inr ⟨rfl, h', rfl, hz', hs'⟩))
theorem cons_drop {α : Type} {x : α} {rest L : List α} {k : Nat} (e : x :: rest = L.drop k) : L[k]? = some x ∧ rest = L.drop (k + 1) := by
  constructor
  · have := List.getElem?_drop (xs := L) (i := k) (j := 0)
    rw [← e] at this
    simpa using this.symm
  · rw [← List.drop_drop, ← e]; rfl
theorem zipIdx_at {b n k : Nat} {x : Value × Nat} (h : ((itsOf b n).zipIdx)[k]? = some x) : x = (.ref (b + k), k) ∧ k < n := by
  rw [List.getElem?_zipIdx] at h
  cases e : (itsOf b n)[k]? with
  | none => rw [e] at h; simp at h
  | some v =>
    have hk : k < n := by have := (List.getElem?_eq_some_iff.mp e).1; rw [its_len] at this; exact this
    rw [its_at hk] at e
    cases e
    rw [its_at hk] at h
    simp at h
    exact ⟨h.symm, hk⟩
set_option maxHeartbeats 4000000 in
theorem next_item {b : Nat} {rows : List Addr} {f0 : Value} {f1 : Bool} {i : Nat} {col : List Value} {Q : Value → Shared → Prop} (st : St0 s.heap b rows f0 f1 (fun _ => i)) (hf : f0 = .none ∨ ∃ a : Nat, f0 = rawInt a) (hn : 0 < rows.length) (hn2 : rows.length ≤ 1000)
    (hr : ∀ row ∈ rows, row < b) (hc : col.length = rows.length) (hx : ∀ (k : Nat) (row : Addr), rows[k]? = some row → ∃ (items : Array Value) (x : Value), s.heap.IsTuple row items ∧ items[i]? = some x ∧ col[k]? = some x)
    (hQ : ∀ h' f0' f1', St0 h' b rows f0' f1' (fun _ => i + 1) → (f0' = .none ∨ ∃ a : Nat, f0' = rawInt a) → TAt h' s.heap.objs.size col → h'.objs.size = s.heap.objs.size + 1 → Off b rows.length s.heap h' → Q (.ref s.heap.objs.size) { s with heap := h' }) :
    wpAny (model prog w) A (Builtin.«zip.__next__» ⟨[.ref (b + rows.length + 2)], []⟩) (fun fin s' => ∃ v, fin = .done (.ret v) ∧ Q v s') E s := by
  show wpAny _ _ (field (.ref (b + rows.length + 2)) 2 >>= _) _ _ _
  refine wpAny_bind (wpAny_field st.zip rfl (x := .bool false) rfl ?_)
  show wpAny _ _ (field (.ref (b + rows.length + 2)) 3 >>= _) _ _ _
  refine wpAny_bind (wpAny_field st.zip rfl (x := .ref (b + rows.length)) rfl ?_)
  refine wpAny_bind (wpAny_seqItems st.ti rfl ?_)
  have hem : (itsOf b rows.length).toArray.isEmpty = false := by
    have := its_len b rows.length
    cases e : itsOf b rows.length with
    | nil => rw [e] at this; simp at this; omega
    | cons _ _ => rfl
  dsimp only
  rw [if_neg (by rw [hem]; exact Bool.false_ne_true)]
  refine wpAny_bind (wpAny_mono (own_free st.zip hf) (fun r s1 h1 => ?_) (fun _ _ x => x))
  have hlt : b + rows.length + 2 < s.heap.objs.size := Heap.lt_size st.zip
  rcases h1 with ⟨rfl, rfl⟩ | ⟨rfl, h1, rfl, hz1, hs1⟩
  · -- the tuple that it keeps is free
    rw [if_pos rfl]
    refine wpAny_bind (wpAny_rule ?_)
    refine wpAny_bind (wpAny_field st.zip rfl (x := .ref (b + rows.length + 1)) rfl ?_)
    refine wpAny_bind (wpAny_setField_rec st.zip (by simp) fun h2 hz2 hs2 => ?_)
    replace hz2 : ZAt h2 (b + rows.length + 2) (b + rows.length) (b + rows.length + 1) .ellipsis f1 := hz2
    refine wpAny_bind (wpAny_mono (wpAny_forIn_list _ (fun rest bb s' => ∃ k, rest = ((itsOf b rows.length).zipIdx).drop k ∧ bb = (none, ()) ∧ Half s1 b rows i col .ellipsis f1 k s')
      (fun bb s' => bb = (none, ()) ∧ Half s1 b rows i col .ellipsis f1 rows.length s') ?turn ?fin _ _ ?start) ?after (fun _ _ x => x))
    case start =>
      obtain ⟨kept, hk1, hk2⟩ := st.to
      refine ⟨0, rfl, rfl, ⟨h2, rfl, hs2.1, Off.but hs2 (by omega), hz2, ?_, ⟨kept, hk1, ?_, by simp⟩, fun j row hj => ?_⟩⟩
      · show h2.get? _ = _
        rw [hs2.2 _ (ne_nat (by omega))]; exact st.ti
      · show h2.get? _ = _
        rw [hs2.2 _ (ne_nat (by omega))]; exact hk2
      · have hj' := (List.getElem?_eq_some_iff.mp hj).1
        obtain ⟨o, ho, r⟩ := st.it j row hj
        exact ⟨o, by rw [hs2.2 _ (ne_nat (by omega))]; exact ho, by simpa using r⟩
    case fin =>
      rintro bb s' ⟨k, e, rfl, hh⟩
      refine ⟨rfl, ?_⟩
      have hk : rows.length ≤ k := by
        have := congrArg List.length e
        rw [List.length_drop, List.length_zipIdx, its_len] at this
        simp at this
        omega
      obtain ⟨h', e1, e2, e3, e4, e5, ⟨kept, e6, e7, e8⟩, e9⟩ := hh.ex
      refine ⟨h', e1, e2, e3, e4, e5, ⟨kept, e6, e7, ?_⟩, fun j row hj => ?_⟩
      · rw [List.take_of_length_le (by omega), List.take_of_length_le (by omega)] at e8 ⊢
        exact e8
      · have := e9 j row hj
        have hj' := (List.getElem?_eq_some_iff.mp hj).1
        rw [if_pos (show j < k by omega)] at this
        rw [if_pos hj']; exact this
    case turn =>
      rintro x rest bb s' ⟨k, e, rfl, hh⟩
      obtain ⟨e1, e2⟩ := cons_drop e
      obtain ⟨rfl, hk⟩ := zipIdx_at e1
      obtain ⟨h', rfl, hsz, hoff, hz', hti', ⟨kept, hk1, hk2, hk3⟩, hits⟩ := hh.ex
      obtain ⟨row, hrow⟩ : ∃ row, rows[k]? = some row := ⟨rows[k], List.getElem?_eq_getElem hk⟩
      obtain ⟨items, v, hI, hv, hcv⟩ := hx k row hrow
      have hit := hits k row hrow
      rw [if_neg (Nat.lt_irrefl _)] at hit
      dsimp only
      refine wpAny_bind (wpAny_onRaise ?_)
      show wpAny _ _ (Builtin.SmallTypes.nextOf (.ref (b + k)) >>= _) _ _ _
      refine wpAny_bind (nextOf_item (s := { s1 with heap := h' }) hit (tuple_off hoff (hr row (List.mem_of_getElem? hrow)) hI) hv fun h3 hit3 hs3 => wpAny_pure ?_)
      dsimp only
      have hto3 : TAt h3 (b + rows.length + 1) kept := by
        show h3.get? _ = _
        rw [hs3.2 _ (ne_nat (by omega))]; exact hk2
      refine wpAny_bind (wpAny_seqItems (s := { s1 with heap := h3 }) hto3 rfl ?_)
      dsimp only
      refine wpAny_bind (wpAny_updateSeq (s := { s1 with heap := h3 }) hto3 rfl ?_ (by rw [List.size_toArray]; have := Pv.rLenQ; exact Nat.le_trans (by omega) (show 1000 ≤ sizeLine by decide)) (by simp only [Array.size_setIfInBounds, List.size_toArray]; exact Nat.le_trans (by omega) (show 1000 ≤ sizeLine + 1 by decide)))
      refine wpAny_bind (wpAny_letGo (wpAny_pure ?_))
      have hs4 : Heap.SameBut (b + rows.length + 1) h3 (h3.update (b + rows.length + 1) (Obj.mapSeq fun x => x.setIfInBounds k v)) := Heap.SameBut.update ..
      generalize hh4 : h3.update (b + rows.length + 1) (Obj.mapSeq fun x => x.setIfInBounds k v) = h4 at hs4
      have hto4 : TAt h4 (b + rows.length + 1) (kept.set k v) := by
        show h4.get? _ = _
        rw [← hh4, Heap.get?_update_self _ hto3 rfl]
        simp [Obj.mapSeq]
      refine ⟨k + 1, e2, rfl, ⟨h4, rfl, ?_, ?_, ?_, ?_, ⟨kept.set k v, ?_, hto4, ?_⟩, fun j row' hj => ?_⟩⟩
      · rw [hs4.1, hs3.1]; exact hsz
      · exact hoff.trans ((Off.but hs3 (by omega)).trans (Off.but hs4 (by omega)))
      · show h4.get? _ = _
        rw [hs4.2 _ (ne_nat (by omega)), hs3.2 _ (ne_nat (by omega))]; exact hz'
      · show h4.get? _ = _
        rw [hs4.2 _ (ne_nat (by omega)), hs3.2 _ (ne_nat (by omega))]; exact hti'
      · rw [List.length_set]; exact hk1
      · rw [List.take_add_one, List.take_add_one, hcv, List.getElem?_set_self (by omega), ← hk3, List.take_set_of_le (Nat.le_refl _)]
      · have hj' := (List.getElem?_eq_some_iff.mp hj).1
        by_cases hjk : j = k
        · subst hjk
          rw [hrow] at hj
          cases hj
          rw [if_pos (Nat.lt_succ_self _)]
          obtain ⟨o, ho, r⟩ := hit3
          exact ⟨o, by rw [hs4.2 _ (ne_nat (by omega))]; exact ho, r⟩
        · obtain ⟨o, ho, r⟩ := hits j row' hj
          refine ⟨o, by rw [hs4.2 _ (ne_nat (by omega)), hs3.2 _ (fun z => hjk (Nat.add_left_cancel z))]; exact ho, ?_⟩
          by_cases hlt' : j < k
          · rw [if_pos hlt'] at r; rw [if_pos (show j < k + 1 by omega)]; exact r
          · rw [if_neg hlt'] at r; rw [if_neg (show ¬ j < k + 1 by omega)]; exact r
    case after =>
      rintro bb s' ⟨rfl, hh⟩
      obtain ⟨h', rfl, hsz, hoff, hz', hti', ⟨kept, hk1, hk2, hk3⟩, hits⟩ := hh.ex
      rw [List.take_of_length_le (by omega), List.take_of_length_le (by omega)] at hk3
      subst hk3
      dsimp only
      refine wpAny_bind (wpAny_seqItems (s := { s1 with heap := h' }) hk2 rfl ?_)
      dsimp only
      refine wpAny_bind (wpAny_newTuple (s := { s1 with heap := h' }) ?_ (by show kept.toArray.toList.length ≤ sizeLine; rw [List.toList_toArray]; exact Nat.le_trans (show kept.length ≤ 1000 by omega) (by decide)))
      dsimp only
      rw [hsz]
      refine wpAny_bind ?_
      unfold Builtin.SmallTypes.ownedTupleHandOut
      have hz6 : ZAt (h'.push { cls := .type "tuple", data := .seq kept.toArray.toList.toArray }) (b + rows.length + 2) (b + rows.length) (b + rows.length + 1) .ellipsis f1 := Heap.get?_push_of_some _ hz'
      refine wpAny_bind (wpAny_setField_rec (s := { s1 with heap := h'.push { cls := .type "tuple", data := .seq kept.toArray.toList.toArray } }) hz6 (by simp) fun h7 hz7 hs7 => ?_)
      replace hz7 : ZAt h7 (b + rows.length + 2) (b + rows.length) (b + rows.length + 1) (rawInt s1.heap.objs.size) f1 := hz7
      refine wpAny_setField_rec (s := { s1 with heap := h7 }) hz7 (by simp) fun h8 hz8 hs8 => ?_
      replace hz8 : ZAt h8 (b + rows.length + 2) (b + rows.length) (b + rows.length + 1) (rawInt s1.heap.objs.size) false := hz8
      have up : ∀ c o, c ≠ b + rows.length + 2 → h'.get? c = some o → h8.get? c = some o := fun c o c1 e => by
        rw [hs8.2 _ c1, hs7.2 _ c1]; exact Heap.get?_push_of_some _ e
      refine wpAny_pure ⟨_, rfl, hQ h8 _ false ⟨hz8, up _ _ (ne_nat (by omega)) hti', ⟨kept, hk1, up _ _ (ne_nat (by omega)) hk2⟩, fun k row hk => ?_⟩ (.inr ⟨_, rfl⟩) ?_ ?_ ?_⟩
      · have hk' := (List.getElem?_eq_some_iff.mp hk).1
        have := hits k row hk
        rw [if_pos hk'] at this
        obtain ⟨o, ho, r⟩ := this
        exact ⟨o, up _ _ (ne_nat (by omega)) ho, r⟩
      · show h8.get? _ = _
        rw [hs8.2 _ (ne_nat (by omega)), hs7.2 _ (ne_nat (by omega)), ← hsz]
        exact Heap.get?_push_size _ rfl
      · rw [hs8.1, hs7.1, Heap.size_push, hsz]
      · intro c o r e
        exact up c o (ne_nat (by omega)) (hoff c o r e)
  · -- it is not
    rw [if_neg Bool.false_ne_true]
    have hti1 : TAt h1 (b + rows.length) (itsOf b rows.length) := by
      show h1.get? _ = _
      rw [hs1.2 _ (ne_nat (by omega))]; exact st.ti
    try dsimp only
    refine wpAny_bind (wpAny_mono (MeetsSeq2.wpAny_forIn_array _ (fun rest bb s' => ∃ k, rest = (itsOf b rows.length).drop k ∧ bb = (none, (col.take k).toArray) ∧ ∃ h', s' = { s with heap := h' } ∧ h'.objs.size = s.heap.objs.size ∧ Off b rows.length s.heap h' ∧
        ZAt h' (b + rows.length + 2) (b + rows.length) (b + rows.length + 1) f0 true ∧ TAt h' (b + rows.length) (itsOf b rows.length) ∧ (∃ kept : List Value, kept.length = rows.length ∧ TAt h' (b + rows.length + 1) kept) ∧ ∀ (j : Nat) (row : Addr), rows[j]? = some row → h'.IsTupleIter (b + j) row (if j < k then i + 1 else i))
      (fun bb s' => bb = (none, col.toArray) ∧ ∃ h', s' = { s with heap := h' } ∧ h'.objs.size = s.heap.objs.size ∧ Off b rows.length s.heap h' ∧ St0 h' b rows f0 true (fun _ => i + 1)) ?turn ?fin _ _ ?start) ?after (fun _ _ x => x))
    case start =>
      obtain ⟨kept, hk1, hk2⟩ := st.to
      refine ⟨0, by simp, by simp, h1, rfl, hs1.1, Off.but hs1 (by omega), hz1, hti1, ⟨kept, hk1, ?_⟩, fun j row hj => ?_⟩
      · show h1.get? _ = _
        rw [hs1.2 _ (ne_nat (by omega))]; exact hk2
      · have hj' := (List.getElem?_eq_some_iff.mp hj).1
        obtain ⟨o, ho, r⟩ := st.it j row hj
        exact ⟨o, by rw [hs1.2 _ (ne_nat (by omega))]; exact ho, by simpa using r⟩
    case fin =>
      rintro bb s' ⟨k, e, rfl, h', rfl, e2, e3, e4, e5, e6, e7⟩
      have hk : rows.length ≤ k := by
        have := congrArg List.length e
        rw [List.length_drop, its_len] at this
        simp at this
        omega
      refine ⟨by rw [List.take_of_length_le (by omega)], h', rfl, e2, e3, e4, e5, e6, fun j row hj => ?_⟩
      have := e7 j row hj
      have hj' := (List.getElem?_eq_some_iff.mp hj).1
      rw [if_pos (show j < k by omega)] at this
      exact this
    case turn =>
      rintro x rest bb s' ⟨k, e, rfl, h', rfl, hsz, hoff, hz', hti', hto', hits⟩
      obtain ⟨e1, e2⟩ := cons_drop e
      have hk : k < rows.length := by have := (List.getElem?_eq_some_iff.mp e1).1; rw [its_len] at this; exact this
      rw [its_at hk] at e1
      cases e1
      obtain ⟨row, hrow⟩ : ∃ row, rows[k]? = some row := ⟨rows[k], List.getElem?_eq_getElem hk⟩
      obtain ⟨items, v, hI, hv, hcv⟩ := hx k row hrow
      have hit := hits k row hrow
      rw [if_neg (Nat.lt_irrefl _)] at hit
      dsimp only
      refine wpAny_bind (wpAny_holding ?_)
      show wpAny _ _ (Builtin.SmallTypes.nextOf (.ref (b + k)) >>= _) _ _ _
      refine wpAny_bind (nextOf_item (s := { s with heap := h' }) hit (tuple_off hoff (hr row (List.mem_of_getElem? hrow)) hI) hv fun h3 hit3 hs3 => wpAny_pure ?_)
      dsimp only
      refine wpAny_pure ⟨k + 1, e2, ?_, h3, rfl, ?_, ?_, ?_, ?_, ?_, fun j row' hj => ?_⟩
      · rw [List.take_add_one, hcv]; simp
      · rw [hs3.1]; exact hsz
      · exact hoff.trans (Off.but hs3 (by omega))
      · show h3.get? _ = _
        rw [hs3.2 _ (ne_nat (by omega))]; exact hz'
      · show h3.get? _ = _
        rw [hs3.2 _ (ne_nat (by omega))]; exact hti'
      · obtain ⟨kept, hk1, hk2⟩ := hto'
        exact ⟨kept, hk1, by show h3.get? _ = _; rw [hs3.2 _ (ne_nat (by omega))]; exact hk2⟩
      · have hj' := (List.getElem?_eq_some_iff.mp hj).1
        by_cases hjk : j = k
        · subst hjk
          rw [hrow] at hj
          cases hj
          rw [if_pos (Nat.lt_succ_self _)]
          exact hit3
        · obtain ⟨o, ho, r⟩ := hits j row' hj
          refine ⟨o, by rw [hs3.2 _ (fun z => hjk (Nat.add_left_cancel z))]; exact ho, ?_⟩
          by_cases hlt' : j < k
          · rw [if_pos hlt'] at r; rw [if_pos (show j < k + 1 by omega)]; exact r
          · rw [if_neg hlt'] at r; rw [if_neg (show ¬ j < k + 1 by omega)]; exact r
    case after =>
      rintro bb s' ⟨rfl, h', rfl, hsz, hoff, st'⟩
      dsimp only
      refine wpAny_bind (wpAny_newTuple (s := { s with heap := h' }) ?_ (by show col.toArray.toList.length ≤ sizeLine; rw [List.toList_toArray]; exact Nat.le_trans (show col.length ≤ 1000 by omega) (by decide)))
      dsimp only
      rw [hsz]
      have up : ∀ c o, h'.get? c = some o → (h'.push { cls := .type "tuple", data := .seq col.toArray.toList.toArray }).get? c = some o := fun c o e => Heap.get?_push_of_some _ e
      refine wpAny_pure ⟨_, rfl, hQ _ _ true ⟨up _ _ st'.zip, up _ _ st'.ti, ?_, fun k row hk => ?_⟩ hf ?_ ?_ ?_⟩
      · obtain ⟨kept, hk1, hk2⟩ := st'.to
        exact ⟨kept, hk1, up _ _ hk2⟩
      · obtain ⟨o, ho, r⟩ := st'.it k row hk
        exact ⟨o, up _ _ ho, r⟩
      · rw [← hsz]; exact Heap.get?_push_size _ rfl
      · rw [Heap.size_push, hsz]
      · intro c o r e
        exact up _ _ (hoff c o r e)
end
end ZS

namespace ZS
open PySem
section
variable {prog : Program} {w : World} {A : Around} {E : Value → Shared → Prop} {s : Shared}
theorem its_cons {b n : Nat} (h : 0 < n) : ∃ rest, itsOf b n = .ref (b + 0) :: rest := by
  cases e : itsOf b n with
  | nil => have := its_len b n; rw [e] at this; simp at this; omega
  | cons x rest =>
    have := its_at (b := b) h
    rw [e] at this
    simp at this
    exact ⟨rest, by rw [this]; rfl⟩
set_option maxHeartbeats 4000000 in
theorem next_end {b : Nat} {rows : List Addr} {f0 : Value} {f1 : Bool} {i : Nat} {row : Addr} {items : Array Value} {Q : Fin → Shared → Prop} (hh : A.handled = none) (st : St0 s.heap b rows f0 f1 (fun _ => i)) (hf : f0 = .none ∨ ∃ a : Nat, f0 = rawInt a)
    (hr0 : rows[0]? = some row) (hrb : row < b) (hI : s.heap.IsTuple row items) (hx : items[i]? = none)
    (hE : ∀ h' e, Off b rows.length s.heap h' → (∃ o, h'.get? e = some o ∧ o.cls = .type "StopIteration") → E (.ref e) { s with heap := h' }) :
    wpAny (model prog w) A (Builtin.«zip.__next__» ⟨[.ref (b + rows.length + 2)], []⟩) Q E s := by
  have hn : 0 < rows.length := (List.getElem?_eq_some_iff.mp hr0).1
  obtain ⟨rest, hits⟩ := its_cons (b := b) hn
  show wpAny _ _ (field (.ref (b + rows.length + 2)) 2 >>= _) _ _ _
  refine wpAny_bind (wpAny_field st.zip rfl (x := .bool false) rfl ?_)
  show wpAny _ _ (field (.ref (b + rows.length + 2)) 3 >>= _) _ _ _
  refine wpAny_bind (wpAny_field st.zip rfl (x := .ref (b + rows.length)) rfl ?_)
  refine wpAny_bind (wpAny_seqItems st.ti rfl ?_)
  have hem : (itsOf b rows.length).toArray.isEmpty = false := by rw [hits]; rfl
  dsimp only
  rw [if_neg (by rw [hem]; exact Bool.false_ne_true)]
  refine wpAny_bind (wpAny_mono (own_free st.zip hf) (fun r s1 h1 => ?_) (fun _ _ x => x))
  have hlt : b + rows.length + 2 < s.heap.objs.size := Heap.lt_size st.zip
  have hit := st.it 0 row hr0
  rcases h1 with ⟨rfl, rfl⟩ | ⟨rfl, h1, rfl, hz1, hs1⟩
  · rw [if_pos rfl]
    refine wpAny_bind (wpAny_rule ?_)
    refine wpAny_bind (wpAny_field st.zip rfl (x := .ref (b + rows.length + 1)) rfl ?_)
    refine wpAny_bind (wpAny_setField_rec st.zip (by simp) fun h2 hz2 hs2 => ?_)
    replace hz2 : ZAt h2 (b + rows.length + 2) (b + rows.length) (b + rows.length + 1) .ellipsis f1 := hz2
    have o2 : Off b rows.length s1.heap h2 := Off.but hs2 (by omega)
    have hit2 : h2.IsTupleIter (b + 0) row i := by
      obtain ⟨o, ho, r⟩ := hit
      exact ⟨o, by rw [hs2.2 _ (ne_nat (by omega))]; exact ho, r⟩
    refine wpAny_bind ?_
    have hz0 : (itsOf b rows.length).toArray.toList.zipIdx = (.ref (b + 0), 0) :: rest.zipIdx 1 := by rw [hits]; rfl
    rw [hz0, List.forIn_cons]
    refine wpAny_bind (wpAny_bind (wpAny_onRaise ?_))
    show wpAny _ _ (Builtin.SmallTypes.nextOf (.ref (b + 0)) >>= _) _ _ _
    refine wpAny_bind (RZ.nextOf_tuple_end (s := { s1 with heap := h2 }) hh hit2 (tuple_off o2 hrb hI) hx fun h3 e hs3 he => ?_)
    obtain ⟨oe, hoe, hce⟩ := he
    have hz3 : ZAt h3 (b + rows.length + 2) (b + rows.length) (b + rows.length + 1) .ellipsis f1 := hs3 _ _ (ne_nat (by omega)) hz2
    have hez : e ≠ b + rows.length + 2 := fun x => by subst x; rw [hz3] at hoe; cases hoe; simp at hce
    refine wpAny_setField_rec (s := { s1 with heap := h3 }) hz3 (by simp) fun h4 _ hs4 => hE h4 e (fun c o r x => ?_) ⟨oe, by rw [hs4.2 _ hez]; exact hoe, hce⟩
    rw [hs4.2 _ (ne_nat (by omega))]
    exact hs3 _ _ (ne_nat (by omega)) (o2 c o r x)
  · rw [if_neg Bool.false_ne_true]
    have o1 : Off b rows.length s.heap h1 := Off.but hs1 (by omega)
    have hit1 : h1.IsTupleIter (b + 0) row i := by
      obtain ⟨o, ho, r⟩ := hit
      exact ⟨o, by rw [hs1.2 _ (ne_nat (by omega))]; exact ho, r⟩
    try dsimp only
    refine wpAny_bind ?_
    rw [← Array.forIn_toList, List.toList_toArray, hits, List.forIn_cons]
    refine wpAny_bind (wpAny_bind (wpAny_holding ?_))
    show wpAny _ _ (Builtin.SmallTypes.nextOf (.ref (b + 0)) >>= _) _ _ _
    refine wpAny_bind (RZ.nextOf_tuple_end (s := { s with heap := h1 }) hh hit1 (tuple_off o1 hrb hI) hx fun h3 e hs3 he => hE h3 e (fun c o r x => ?_) he)
    exact hs3 _ _ (ne_nat (by omega)) (o1 c o r x)
theorem pyNext_item {b : Nat} {rows : List Addr} {f0 : Value} {f1 : Bool} {i : Nat} {col : List Value} {Q : Option Value → Shared → Prop} (st : St0 s.heap b rows f0 f1 (fun _ => i)) (hf : f0 = .none ∨ ∃ a : Nat, f0 = rawInt a) (hn : 0 < rows.length) (hn2 : rows.length ≤ 1000)
    (hr : ∀ row ∈ rows, row < b) (hc : col.length = rows.length) (hx : ∀ (k : Nat) (row : Addr), rows[k]? = some row → ∃ (items : Array Value) (x : Value), s.heap.IsTuple row items ∧ items[i]? = some x ∧ col[k]? = some x)
    (hQ : ∀ h' f0' f1', St0 h' b rows f0' f1' (fun _ => i + 1) → (f0' = .none ∨ ∃ a : Nat, f0' = rawInt a) → TAt h' s.heap.objs.size col → h'.objs.size = s.heap.objs.size + 1 → Off b rows.length s.heap h' → Q (some (.ref s.heap.objs.size)) { s with heap := h' }) :
    wpAny (model prog w) A (pyNext (.ref (b + rows.length + 2))) Q E s := by
  have hT : s.TypeIs (.ref (b + rows.length + 2)) "zip" := ⟨_, st.zip, rfl⟩
  unfold pyNext
  exact wpAny_bind (wpAny_attempt (wpAny_callSpecial?_slot (name := Str.ofString "__next__") hT F.slot_zip_next
    (wpAny_call_entry F.slot_zip_next hT F.entry_zip_next
      (next_item st hf hn hn2 hr hc hx fun h' a b' a1 a2 a3 a4 a5 => wpAny_pure (hQ h' a b' a1 a2 a3 a4 a5)) (F.args_zip_next_1 _))))
theorem pyNext_end {b : Nat} {rows : List Addr} {f0 : Value} {f1 : Bool} {i : Nat} {row : Addr} {items : Array Value} {Q : Option Value → Shared → Prop} (hh : A.handled = none) (st : St0 s.heap b rows f0 f1 (fun _ => i)) (hf : f0 = .none ∨ ∃ a : Nat, f0 = rawInt a)
    (hr0 : rows[0]? = some row) (hrb : row < b) (hI : s.heap.IsTuple row items) (hx : items[i]? = none) (hQ : ∀ h', Off b rows.length s.heap h' → Q none { s with heap := h' }) :
    wpAny (model prog w) A (pyNext (.ref (b + rows.length + 2))) Q E s := by
  have hT : s.TypeIs (.ref (b + rows.length + 2)) "zip" := ⟨_, st.zip, rfl⟩
  unfold pyNext
  refine wpAny_bind (wpAny_attempt (wpAny_callSpecial?_slot (name := Str.ofString "__next__") hT F.slot_zip_next
    (wpAny_call_entry F.slot_zip_next hT F.entry_zip_next (next_end hh st hf hr0 hrb hI hx fun h' e hk he => ?_) (F.args_zip_next_1 _))))
  obtain ⟨o, ho, hc⟩ := he
  refine wpAny_bind (wpAny_isInstance (T := "StopIteration") (b := true) ⟨o, ho, hc⟩ isSubtype_stop ?_)
  exact wpAny_pure (hQ _ hk)
theorem pyIter_zip {z TI TO : Addr} {f0 : Value} {f1 : Bool} {Q : Value → Shared → Prop} (hz : ZAt s.heap z TI TO f0 f1) (h : Q (.ref z) s) : wpAny (model prog w) A (pyIter (.ref z)) Q E s := by
  have hT : s.TypeIs (.ref z) "zip" := ⟨_, hz, rfl⟩
  refine wpAny_pyIter_slot hT F.slot_zip_iter (wpAny_call_entry F.slot_zip_iter hT F.entry_zip_iter ?_ (F.args_zip_iter_1 _))
  show wpAny _ _ (ret (.ref z)) _ _ s
  exact wpAny_pure ⟨_, rfl, "zip", _, hT, F.slot_zip_next.lookup, h⟩
/-! making it -/
theorem typeCall (as : List Value) (h : as.length ≤ 7) : checkTypeCall "zip" ⟨as, []⟩ = pure () := by
  match as, h with
  | [], _ => kernel_rfl
  | [a], _ => kernel_rfl
  | [a, b], _ => kernel_rfl
  | [a, b, c], _ => kernel_rfl
  | [a, b, c, d], _ => kernel_rfl
  | [a, b, c, d, e], _ => kernel_rfl
  | [a, b, c, d, e, f], _ => kernel_rfl
  | [a, b, c, d, e, f, g], _ => kernel_rfl
  | _ :: _ :: _ :: _ :: _ :: _ :: _ :: _ :: _, h => simp at h
theorem newCall (as : List Value) (h : as.length ≤ 7) : checkBuiltinCall "zip.__new__" ⟨.type "zip" :: as, []⟩ = pure () := by
  match as, h with
  | [], _ => kernel_rfl
  | [a], _ => kernel_rfl
  | [a, b], _ => kernel_rfl
  | [a, b, c], _ => kernel_rfl
  | [a, b, c, d], _ => kernel_rfl
  | [a, b, c, d, e], _ => kernel_rfl
  | [a, b, c, d, e, f], _ => kernel_rfl
  | [a, b, c, d, e, f, g], _ => kernel_rfl
  | _ :: _ :: _ :: _ :: _ :: _ :: _ :: _ :: _, h => simp at h
theorem initArgs (o : Value) (as : List Value) (h : as.length ≤ 7) : argsOk "object.__init__" ⟨o :: as, []⟩ := by
  unfold argsOk
  rw [signature?_of (id := "object.__init__") (n := ['_', '_', 't', 'i', 'n', 'i', '_', '_']) (o := ['t', 'c', 'e', 'j', 'b', 'o']) (by kernel_rfl) F.owner_object]
  match as, h with
  | [], _ => kernel_rfl
  | [a], _ => kernel_rfl
  | [a, b], _ => kernel_rfl
  | [a, b, c], _ => kernel_rfl
  | [a, b, c, d], _ => kernel_rfl
  | [a, b, c, d, e], _ => kernel_rfl
  | [a, b, c, d, e, f], _ => kernel_rfl
  | [a, b, c, d, e, f, g], _ => kernel_rfl
  | _ :: _ :: _ :: _ :: _ :: _ :: _ :: _ :: _, h => simp at h
end
end ZS

namespace ZS
open PySem
def pushIts : Heap → List Addr → Heap
  | h, [] => h
  | h, l :: ls => pushIts (h.push { cls := .type "tuple_iterator", data := .fields #[.ref l, .int 0 0] }) ls
theorem push_size : ∀ (ls : List Addr) (h : Heap), (pushIts h ls).objs.size = h.objs.size + ls.length
  | [], h => rfl
  | l :: ls, h => by rw [pushIts, push_size ls, Heap.size_push, List.length_cons]; omega
theorem push_old : ∀ (ls : List Addr) (h : Heap) {c : Addr} {o : Obj}, h.get? c = some o → (pushIts h ls).get? c = some o
  | [], h, _, _, e => e
  | l :: ls, h, c, o, e => push_old ls _ (Heap.get?_push_of_some _ e)
theorem push_it : ∀ (ls : List Addr) (h : Heap) (k : Nat) (row : Addr), ls[k]? = some row → (pushIts h ls).IsTupleIter (h.objs.size + k) row 0
  | [], h, k, row, e => by simp at e
  | l :: ls, h, 0, row, e => by
    simp at e
    subst e
    exact ⟨_, push_old ls _ (Heap.get?_push_size _ rfl), rfl, rfl⟩
  | l :: ls, h, k + 1, row, e => by
    have := push_it ls (h.push { cls := .type "tuple_iterator", data := .fields #[.ref l, .int 0 0] }) k row (by simpa using e)
    rw [Heap.size_push] at this
    rw [show h.objs.size + (k + 1) = h.objs.size + 1 + k by omega]
    exact this
theorem push_snoc : ∀ (ls : List Addr) (h : Heap) (l : Addr), pushIts h (ls ++ [l]) = (pushIts h ls).push { cls := .type "tuple_iterator", data := .fields #[.ref l, .int 0 0] }
  | [], h, l => rfl
  | x :: ls, h, l => by rw [List.cons_append, pushIts, push_snoc ls, pushIts]
def Made (h : Heap) (rows : List Addr) (h' : Heap) : Prop := St0 h' h.objs.size rows .none false (fun _ => 0) ∧ ∀ c o, h.get? c = some o → h'.get? c = some o
set_option maxHeartbeats 4000000 in
theorem meets_new (rows : List Addr) (hn : rows.length ≤ 7) :
    Meets (Builtin.«zip.__new__» ⟨.type "zip" :: rows.map Value.ref, []⟩) (fun _ R s => (∀ row ∈ rows, ∃ items, s.heap.IsTuple row items) ∧
      ∀ h', Made s.heap rows h' → R (.ok (.ret (.ref (s.heap.objs.size + rows.length + 2)))) { s with heap := h' }) :=
  .of_wp fun prog w A R s h => by
    obtain ⟨hp, g, d, tk, os⟩ := s
    obtain ⟨ht, h⟩ := h
    have hsub := sub_zip
    wp_walk
    show wpAny (model prog w) A.in1 (forIn (rows.map Value.ref) (#[] : Array Value) (fun x its => holding its.toList (pyIter x) >>= fun v => pure (ForInStep.yield (its.push v)))) _ _ _
    refine wpAny_mono (wpAny_forIn_list _ (fun rest b s' => ∃ k, k ≤ rows.length ∧ rest = (rows.map Value.ref).drop k ∧ b = (itsOf hp.objs.size k).toArray ∧ s' = ⟨pushIts hp (rows.take k), g, d, tk, os⟩)
      (fun b s' => b = (itsOf hp.objs.size rows.length).toArray ∧ s' = ⟨pushIts hp rows, g, d, tk, os⟩) ?turn ?fin _ _ ?start) ?after (fun _ _ x => x)
    case start => exact ⟨0, Nat.zero_le _, rfl, rfl, by rw [List.take_zero]; rfl⟩
    case fin =>
      rintro b s' ⟨k, hk, e, rfl, rfl⟩
      have hk2 : rows.length ≤ k := by
        have := congrArg List.length e
        rw [List.length_drop, List.length_map] at this
        simp at this
        omega
      obtain rfl : k = rows.length := by omega
      exact ⟨rfl, by rw [List.take_length]⟩
    case turn =>
      rintro x rest b s' ⟨k, hk, e, rfl, rfl⟩
      obtain ⟨e1, e2⟩ := cons_drop e
      rw [List.getElem?_map] at e1
      obtain ⟨row, hrow, rfl⟩ := Option.map_eq_some_iff.mp e1
      obtain ⟨items, hI⟩ := ht row (List.mem_of_getElem? hrow)
      have hk2 := (List.getElem?_eq_some_iff.mp hrow).1
      have hI2 : (pushIts hp (rows.take k)).IsTuple row items := by
        obtain ⟨o, ho, r⟩ := hI
        exact ⟨o, push_old _ _ ho, r⟩
      refine wpAny_bind (wpAny_holding (wpAny_pyIter_tuple (s := ⟨pushIts hp (rows.take k), g, d, tk, os⟩) hI2 (wpAny_pure ⟨k + 1, by omega, e2, ?_, ?_⟩)))
      · show (itsOf hp.objs.size k).toArray.push (.ref (pushIts hp (rows.take k)).objs.size) = _
        rw [push_size, List.length_take, Nat.min_eq_left (by omega)]
        unfold itsOf
        rw [List.range_succ, List.map_append]
        simp
      · rw [List.take_add_one, hrow, Option.toList_some, push_snoc]
    case after =>
      rintro b s' ⟨rfl, rfl⟩
      have hz : ∀ l : List Value, l.length ≤ 7 → l.length ≤ sizeLine := fun l h => Nat.le_trans h (by decide)
      refine wpAny_pure ?_
      refine wpAny_bind (wpAny_newTuple (s := ⟨pushIts hp rows, g, d, tk, os⟩) ?_ (hz _ (by rw [List.toList_toArray, its_len]; exact hn)))
      refine wpAny_bind (wpAny_newTuple (s := ⟨(pushIts hp rows).push _, g, d, tk, os⟩) ?_ (hz _ (by rw [List.length_map, List.toList_toArray, its_len]; exact hn)))
      refine wpAny_bind (m := Builtin.SmallTypes.newRecord _ _) ?_
      unfold Builtin.SmallTypes.newRecord
      refine wpAny_newObj_type (s := ⟨((pushIts hp rows).push _).push _, g, d, tk, os⟩) ?_ (by show 5 ≤ sizeLine + 2; decide)
      have e1 : (pushIts hp rows).objs.size = hp.objs.size + rows.length := push_size rows hp
      have up : ∀ c o, hp.get? c = some o → (((pushIts hp rows).push { cls := .type "tuple", data := .seq (itsOf hp.objs.size rows.length).toArray.toList.toArray }).push { cls := .type "tuple", data := .seq ((itsOf hp.objs.size rows.length).toArray.toList.map fun _ => Value.none).toArray }).get? c = some o :=
        fun c o e => Heap.get?_push_of_some _ (Heap.get?_push_of_some _ (push_old _ _ e))
      have upI : ∀ c o, (pushIts hp rows).get? c = some o → (((pushIts hp rows).push { cls := .type "tuple", data := .seq (itsOf hp.objs.size rows.length).toArray.toList.toArray }).push { cls := .type "tuple", data := .seq ((itsOf hp.objs.size rows.length).toArray.toList.map fun _ => Value.none).toArray }).get? c = some o :=
        fun c o e => Heap.get?_push_of_some _ (Heap.get?_push_of_some _ e)
      dsimp only [Builtin.SmallTypes.ownedTupleFields, List.cons_append, List.nil_append]
      rw [Heap.size_push, Heap.size_push, e1]
      refine wpAny_pure ⟨_, rfl, ?_⟩
      have e2 : hp.objs.size + rows.length + 1 + 1 = hp.objs.size + rows.length + 2 := rfl
      rw [e2]
      refine h _ ⟨⟨?_, ?_, ⟨(itsOf hp.objs.size rows.length).map fun _ => Value.none, by rw [List.length_map, its_len], ?_⟩, fun k row hk => ?_⟩, fun c o e => Heap.get?_push_of_some _ (up c o e)⟩
      · show Heap.get? _ _ = _
        have e3 : (((pushIts hp rows).push { cls := .type "tuple", data := .seq (itsOf hp.objs.size rows.length).toArray.toList.toArray }).push { cls := .type "tuple", data := .seq ((itsOf hp.objs.size rows.length).toArray.toList.map fun _ => Value.none).toArray }).objs.size = hp.objs.size + rows.length + 2 := by rw [Heap.size_push, Heap.size_push, e1]
        rw [← e3]
        exact Heap.get?_push_size _ rfl
      · show Heap.get? _ _ = _
        refine Heap.get?_push_of_some _ (Heap.get?_push_of_some _ ?_)
        rw [← e1]
        exact Heap.get?_push_size _ rfl
      · show Heap.get? _ _ = _
        refine Heap.get?_push_of_some _ ?_
        have e4 : ((pushIts hp rows).push { cls := .type "tuple", data := .seq (itsOf hp.objs.size rows.length).toArray.toList.toArray }).objs.size = hp.objs.size + rows.length + 1 := by rw [Heap.size_push, e1]
        rw [← e4]
        exact Heap.get?_push_size _ rfl
      · obtain ⟨o, ho, r⟩ := push_it rows hp k row hk
        exact ⟨o, Heap.get?_push_of_some _ (upI _ _ ho), r⟩
section
variable {prog : Program} {w : World} {A : Around} {E : Value → Shared → Prop} {s : Shared}
theorem call_zipN {rows : List Addr} {Q : Value → Shared → Prop} (hn : rows.length ≤ 7) (ht : ∀ row ∈ rows, ∃ items, s.heap.IsTuple row items)
    (h : ∀ h', Made s.heap rows h' → Q (.ref (s.heap.objs.size + rows.length + 2)) { s with heap := h' }) : wpAny (model prog w) A (call (.type "zip") (rows.map Value.ref)) Q E s := by
  refine callType_new F.called_zip (by decide) (typeCall _ (by rw [List.length_map]; exact hn)) (newCall _ (by rw [List.length_map]; exact hn)) (fun obj => initArgs obj _ (by rw [List.length_map]; exact hn)) F.entry_zip_new
    (meets_new rows hn) ⟨ht, fun h' m => ?_⟩
  exact ⟨⟨_, m.1.zip, rfl⟩, h h' m⟩
end
end ZS

namespace Pv
open PySem PySem.Spec PyProof.Rows L2
/-- the tuples at rows as they stand at each turn, their items at the turn's place in a new tuple -/
def ItS (K : PySem.W.Frag) (rows : List Addr) : It :=
  ⟨fun i H => ∀ row ∈ rows, ∃ xs x, SqT K H row xs ∧ xs[i]? = some x,
    fun i H v H' => ∃ (T : Addr) (col : List V), v = .ref T ∧ H T = none ∧ H' = upd H T (.tup col) ∧ col.length = rows.length ∧ ∀ (k : Nat) (row : Addr), rows[k]? = some row → ∀ xs, SqT K H row xs → col[k]? = xs[i]?,
    fun i H => ∃ row xs, rows[0]? = some row ∧ SqT K H row xs ∧ xs.length ≤ i⟩
def ownZ (b n : Nat) : List Addr := (List.range (n + 3)).map fun k => b + k
theorem ownZ_mem {b n c : Nat} : c ∈ ownZ b n ↔ b ≤ c ∧ c ≤ b + n + 2 := by
  unfold ownZ
  rw [List.mem_map]
  constructor
  · rintro ⟨k, hk, rfl⟩
    rw [List.mem_range] at hk
    omega
  · rintro ⟨h1, h2⟩
    exact ⟨c - b, by rw [List.mem_range]; omega, by omega⟩
theorem cols_of {X : Cx} {pins : List (Addr × Obj)} {σ : L2.St} {H : Hp} {s : Shared} {i : Nat} (I : Inv X pins σ H s) : ∀ {rows : List Addr}, (∀ row ∈ rows, ∃ xs x, SqT X.K H row xs ∧ xs[i]? = some x) →
    ∃ (cv : List V) (cu : List Value), Vals cv cu ∧ cv.length = rows.length ∧ cu.length = rows.length ∧ ∀ (k : Nat) (row : Addr), rows[k]? = some row →
      (∀ xs, SqT X.K H row xs → cv[k]? = xs[i]?) ∧ ∃ (items : Array Value) (u : Value), s.heap.IsTuple row items ∧ items[i]? = some u ∧ cu[k]? = some u
  | [], _ => ⟨[], [], .nil, rfl, rfl, fun k row h => by simp at h⟩
  | r :: rows, h => by
    obtain ⟨cv, cu, h1, h2, h3, h4⟩ := cols_of I (rows := rows) (fun row hr => h row (by simp [hr]))
    obtain ⟨xs, x, hT, hx⟩ := h r (by simp)
    obtain ⟨its, rv, p, _⟩ := I.tuple hT
    obtain ⟨u, hu, ru⟩ := rv.get hx
    refine ⟨x :: cv, u :: cu, .cons ru h1, by simp [h2], by simp [h3], fun k row hk => ?_⟩
    cases k with
    | zero =>
      simp at hk
      subst hk
      exact ⟨fun l hl => by rw [I.tuple_inj hl hT, hx]; rfl, its.toArray, u, p, by simpa using hu, rfl⟩
    | succ k =>
      have := h4 k row (by simpa using hk)
      simpa using this
theorem turn_zipS {P : Program} {w : World} {K : PySem.W.Frag} {y : Str} {py : Pos} {b : Nat} {rows : List Addr} (hn : 0 < rows.length) (hn2 : rows.length ≤ 7) (hb : ∀ row ∈ rows, row < b) :
    Turn P w K (.Name y py) (ItS K rows) (ownZ b rows.length) (b + rows.length + 2) (fun i h => ∃ f0 f1, ZS.St0 h b rows f0 f1 (fun _ => i) ∧ (f0 = .none ∨ ∃ a : Nat, f0 = rawInt a)) where
  mem := ownZ_mem.mpr (by omega)
  obj := fun i h st c hc => by
    obtain ⟨f0, f1, st, _⟩ := st
    obtain ⟨k, hk, rfl⟩ := List.mem_map.mp hc
    rw [List.mem_range] at hk
    by_cases h1 : k < rows.length
    · obtain ⟨o, ho, _, hd⟩ := st.it k rows[k] (List.getElem?_eq_getElem h1)
      exact ⟨o, ho, fun v q => by rw [hd] at q; cases q⟩
    · have h3 : ∀ k n : Nat, k < n + 3 → ¬ k < n → k = n ∨ k = n + 1 ∨ k = n + 2 := fun k n h1 h2 => by omega
      obtain rfl | rfl | rfl := h3 k rows.length hk h1
      · exact ⟨_, st.ti, fun v q => nomatch q⟩
      · obtain ⟨kept, _, e⟩ := st.to
        exact ⟨_, e, fun v q => nomatch q⟩
      · exact ⟨_, st.zip, fun v q => nomatch q⟩
  keep := fun i h h' st k => by
    obtain ⟨f0, f1, st, hf⟩ := st
    have k' : ∀ c, b ≤ c → c ≤ b + rows.length + 2 → ∀ o, h.get? c = some o → h'.get? c = some o := fun c h1 h2 o e => k c (ownZ_mem.mpr ⟨h1, h2⟩) o e
    refine ⟨f0, f1, ⟨k' _ (by omega) (by omega) _ st.zip, k' _ (by omega) (by omega) _ st.ti, ?_, fun j row hj => ?_⟩, hf⟩
    · obtain ⟨kept, h1, e⟩ := st.to
      exact ⟨kept, h1, k' _ (by omega) (by omega) _ e⟩
    · have hj' := (List.getElem?_eq_some_iff.mp hj).1
      obtain ⟨o, ho, r⟩ := st.it j row hj
      exact ⟨o, k' _ (by omega) (by omega) _ ho, r⟩
  item := by
    intro X hP hw hK hc i pins s σ H E I hf st hg
    subst hP hw hK
    obtain ⟨f0, f1, st, hfr⟩ := st
    obtain ⟨cv, cu, h1, h2, h3, h4⟩ := cols_of I hg
    have hlt : b + rows.length + 2 < s.heap.objs.size := Heap.lt_size st.zip
    refine ZS.pyNext_item st hfr hn (by omega) hb h3 (fun k row hk => (h4 k row hk).2) fun h' f0' f1' st' hf' hT hsz hoff => ?_
    refine ⟨_, rfl, ?_⟩
    unfold letOwnedTupleGo
    refine wpAny_pure ?_
    have new : ObjOk X.prog X.w (upd H s.heap.objs.size (.tup cv)) h' s.heap.objs.size (.tup cv) :=
      ⟨Nat.le_trans (show cv.length ≤ 7 by omega) (by decide), cu, h1, ⟨_, hT, rfl, _, rfl⟩⟩
    have I1 : Inv X pins σ (upd H s.heap.objs.size (.tup cv)) { s with heap := h' } :=
      I.turnedNew (t' := s.toks) (ch := ownZ b rows.length) (fun c o hb' q => hoff c o (by rw [ownZ_mem] at hb'; omega) q) hf (Nat.le_refl _) new
    refine ⟨.ref s.heap.objs.size, _, I1, rfl, ⟨_, cv, rfl, I.hok.fresh (Nat.le_refl _), rfl, h2, fun k row hk => (h4 k row hk).1⟩, ⟨f0', f1', st', hf'⟩, fun c hcm => ?_⟩
    have hcm2 := hcm
    obtain ⟨k, hk, rfl⟩ := List.mem_map.mp hcm2
    rw [List.mem_range] at hk
    rw [upd_ne (Nat.ne_of_lt (show b + k < s.heap.objs.size by omega))]
    exact (hf _ hcm).1
  done := by
    intro X hP hw hK hc i pins s σ H E I hf st hg
    subst hP hw hK
    obtain ⟨f0, f1, st, hfr⟩ := st
    obtain ⟨row, xs, hr0, hT, hl⟩ := hg
    obtain ⟨its, rv, p, _⟩ := I.tuple hT
    have l1 := rv.length
    exact ZS.pyNext_end (I.ok.hd hc) st hfr hr0 (hb row (List.mem_of_getElem? hr0)) p (by simp; omega) fun h' hoff => ⟨rfl, I.turnedL (t' := s.toks) (ch := ownZ b rows.length) (fun c o hb' q => hoff c o (by rw [ownZ_mem] at hb'; omega) q) hf⟩
  self := fun A i s Q E st h => by
    obtain ⟨f0, f1, st, _⟩ := st
    exact ZS.pyIter_zip st.zip h
def iZipS (K : PySem.W.Frag) (te : TE) : TI := fun σ H R => te σ H fun x H1 => ∃ (a : Addr) (rows : List Addr), x = .ref a ∧ SqT K H1 a (rows.map V.ref) ∧ 0 < rows.length ∧ rows.length ≤ 7 ∧ (∀ row ∈ rows, ∃ xs, SqT K H1 row xs) ∧ R (ItS K rows) H1
theorem vals_refs : ∀ {rows : List Addr} {us : List Value}, Vals (rows.map V.ref) us → us = rows.map Value.ref
  | [], _, h => by cases h; rfl
  | r :: rows, _, h => by
    cases h with
    | cons h1 h2 => cases h1; rw [vals_refs h2]; rfl
theorem pi_zipS {X : Cx} {e : Expr} {te : TE} {p pos sp_ py : Pos} {y : Str} (hg : Gl X "zip") (hm : X.mg "zip" = none) (he : PE X e te)
    (hst : starEach [.Starred e sp_] X.env = [(true, eval e X.env)] := by rfl) :
    PI X (.Name y py) (.Call (.Name "zip" p) [.Starred e sp_] [] pos) (iZipS X.K te) := by
  refine ⟨fun pins s σ H R I h => ?_⟩
  refine Call_ (ld_blt I hg hm PyProof.Rows.boot_zip ?_)
  rw [hst]
  refine PySem.W.ks_call (P := fun _ => True) rfl (fun h _ => ⟨.machine, .inr (.inl rfl), fun A Q E s _ q => wpAny_pure q⟩) (PySem.W.ks_lone (thn (he.run pins s σ H _ I h) fun v s1 ⟨x, H1, I1, rx, a, rows, ex, hT, hn, hn2, hrows, q⟩ => ?_))
  subst ex
  obtain rfl : v = Value.ref a := rx
  refine StX.star_any I1 (.inl hT) fun us s2 I2 rv => ⟨trivial, ?_⟩
  rw [vals_refs rv]
  have hlt : ∀ row ∈ rows, row < s2.heap.objs.size ∧ ∃ items, s2.heap.IsTuple row items := fun row hr => by
    obtain ⟨xs, hx⟩ := hrows row hr
    obtain ⟨its, _, p1, _⟩ := I2.tuple hx
    obtain ⟨o, ho, _⟩ := id p1
    exact ⟨Heap.lt_size ho, its.toArray, p1⟩
  refine ZS.call_zipN hn2 (fun row hr => (hlt row hr).2) fun h' m => ?_
  refine ZS.pyIter_zip (s := { s2 with heap := h' }) m.1.zip ?_
  have I3 : Inv X pins σ H1 { s2 with heap := h' } := I2.kept (t' := s2.toks) m.2
  refine ⟨s2.heap.objs.size + rows.length + 2, ownZ s2.heap.objs.size rows.length, _, _, H1, rfl, I3, turn_zipS hn hn2 (fun row hr => (hlt row hr).1), ⟨.none, false, m.1, .inl rfl⟩, fun c hcm => ?_, q⟩
  have hle := (ownZ_mem.mp hcm).1
  exact I2.fpOk hle (I2.hok.fresh hle)
theorem walk_zipS {K : PySem.W.Frag} {rows : List Addr} {xss : List (List V)} {n : Nat} (hn : 0 < rows.length) (hl : xss.length = rows.length) (hx : ∀ xs ∈ xss, xs.length = n) :
    Walk (ItS K rows) n (fun H => ∀ (k : Nat) (row : Addr) (xs : List V), rows[k]? = some row → xss[k]? = some xs → SqT K H row xs)
      (fun i H v H' => ∃ (T : Addr) (col : List V), v = .ref T ∧ H T = none ∧ H' = upd H T (.tup col) ∧ col.length = rows.length ∧ ∀ (k : Nat) (xs : List V), xss[k]? = some xs → col[k]? = xs[i]?) := by
  have hat : ∀ (k : Nat), k < rows.length → ∃ xs, xss[k]? = some xs ∧ xs ∈ xss := fun k hk => ⟨xss[k]'(by omega), List.getElem?_eq_getElem (by omega), List.getElem_mem _⟩
  constructor
  · rintro i H hi q row hr
    obtain ⟨k, hk, e⟩ := List.getElem_of_mem hr
    obtain ⟨xs, h1, h2⟩ := hat k hk
    have := hx xs h2
    exact ⟨xs, xs[i]'(by omega), q k row xs (by rw [List.getElem?_eq_getElem hk, e]) h1, List.getElem?_eq_getElem _⟩
  · rintro H q
    obtain ⟨xs, h1, h2⟩ := hat 0 hn
    have := hx xs h2
    exact ⟨rows[0], xs, List.getElem?_eq_getElem hn, q 0 _ xs (List.getElem?_eq_getElem hn) h1, by omega⟩
  · rintro i H v H' _ q ⟨T, col, h1, h2, h3, h4, h5⟩
    refine ⟨T, col, h1, h2, h3, h4, fun k xs hk => ?_⟩
    have hk' : k < rows.length := by have := (List.getElem?_eq_some_iff.mp hk).1; omega
    exact h5 k _ (List.getElem?_eq_getElem hk') xs (q k _ xs (List.getElem?_eq_getElem hk') hk)
end Pv

namespace Pv
open PySem PySem.Spec PyProof.Rows L2
abbrev sTa : Stmt := topS 10
theorem scTa : FnScope ["share", "value", "number", "row"] ["share", "value"] (defScope sTa) := ⟨rfl, rfl, rfl, by decide +kernel, rfl, by decide +kernel, by decide +kernel⟩
abbrev sTR : Stmt := topS 11
theorem scTR : FnScope ["tables", "table", "column"] ["tables"] (defScope sTR) := ⟨rfl, rfl, rfl, by decide +kernel, rfl, by decide +kernel, by decide +kernel⟩
abbrev sIC : Stmt := topS 9
theorem scIC : FnScope ["instance", "assignment", "value", "share", "table"] ["instance", "assignment", "value"] (defScope sIC) := ⟨rfl, rfl, rfl, by decide +kernel, rfl, by decide +kernel, by decide +kernel⟩
def dTabs (tabs : List (List (List Int))) : PyData := .tuple (tabs.map dAsg)
theorem to_tabs (tabs : List (List (List Int))) : tupOnlyAll (tabs.map dAsg) = true := tupOnlyAll_of (by intro d hd; obtain ⟨n, _, rfl⟩ := List.mem_map.mp hd; exact to_dAsg n)
theorem to_dTabs (tabs : List (List (List Int))) : tupOnly (dTabs tabs) = true := by simp [dTabs, tupOnly, to_tabs]
def colAt (rows : List (List Int)) (j : Nat) : List Int := rows.map fun r => r.getD j 0
def colSum (rows : List (List Int)) : List Int := (List.range rows.length).map fun j => (colAt rows j).sum
def Sqr (t : List (List Int)) : Prop := 1 ≤ t.length ∧ t.length ≤ 7 ∧ ∀ r ∈ t, r.length = t.length
theorem colSum_at {t : List (List Int)} {i : Nat} (h : i < t.length) : (colSum t)[i]? = some (colAt t i).sum := by simp [colSum, h]
theorem colSum_len (t : List (List Int)) : (colSum t).length = t.length := by simp [colSum]
section
variable {P : Program} {w : World} {K : PySem.W.Frag} {mg : Str → Option Value} {base : Heap}
theorem rows_refs {H : Hp} : ∀ {t : List (List Int)} {vs : List V}, DpAll K H vs (t.map dI) → ∃ ras : List Addr, vs = ras.map V.ref ∧ ras.length = t.length ∧ ∀ (k : Nat) (ra : Addr) (row : List Int), ras[k]? = some ra → t[k]? = some row → SqT K H ra (row.map V.int)
  | [], _, h => by cases h; exact ⟨[], rfl, rfl, fun k ra row e => by simp at e⟩
  | r :: t, _, h => by
    cases h with
    | cons h1 h2 =>
      obtain ⟨ras, e, hl, hk⟩ := rows_refs h2
      obtain ⟨a, rfl, ha⟩ := dI_ref h1
      refine ⟨a :: ras, by rw [e]; rfl, by simp [hl], fun k ra row e1 e2 => ?_⟩
      cases k with
      | zero => simp at e1 e2; subst e1 e2; exact ha
      | succ k => exact hk k ra row (by simpa using e1) (by simpa using e2)
theorem tab_open {H : Hp} {v : V} {t : List (List Int)} (h : Dp K H v (dAsg t)) : ∃ (a : Addr) (ras : List Addr), v = .ref a ∧ SqT K H a (ras.map V.ref) ∧ ras.length = t.length ∧ ∀ (k : Nat) (ra : Addr) (row : List Int), ras[k]? = some ra → t[k]? = some row → SqT K H ra (row.map V.int) := by
  obtain ⟨a, xs, rfl, hT, hx⟩ := asg_open h
  obtain ⟨ras, rfl, hl, hk⟩ := rows_refs hx
  exact ⟨a, ras, rfl, hT, hl, hk⟩
theorem col_eq {t : List (List Int)} {col : List V} {n i : Nat} (hl : col.length = t.length) (hs : ∀ r ∈ t, r.length = n) (hi : i < n) (h : ∀ (k : Nat) (xs : List V), (t.map fun r => r.map V.int)[k]? = some xs → col[k]? = xs[i]?) : col = (colAt t i).map V.int := by
  apply List.ext_getElem?
  intro k
  by_cases hk : k < t.length
  · have e : (t.map fun r => r.map V.int)[k]? = some (t[k].map V.int) := by rw [List.getElem?_map, List.getElem?_eq_getElem hk]; rfl
    rw [h k _ e]
    have hr := hs t[k] (List.getElem_mem hk)
    have hik : i < t[k].length := by omega
    unfold colAt
    rw [List.getElem?_map, List.getElem?_map, List.getElem?_map, List.getElem?_eq_getElem hk, List.getElem?_eq_getElem hik]
    simp [List.getD_eq_getElem?_getD, List.getElem?_eq_getElem hik]
  · rw [List.getElem?_eq_none (by omega), List.getElem?_eq_none (by simp [colAt]; omega)]
def spTabRes (K : PySem.W.Frag) : Sp := fun vs H Q _ => ∃ (a : Addr) (tabs : List (List (List Int))), vs = [.ref a] ∧ Dp K H (.ref a) (dTabs tabs) ∧ tabs.length ≤ 900 ∧ (∀ t ∈ tabs, Sqr t) ∧ ∀ H' p, Same H H' → Dp K H' (.ref p) (dAsg (tabs.map colSum)) → Q (.ref p) H'
set_option maxHeartbeats 2000000 in
theorem ok_TR {f : Addr} {fd : FuncData} (F : Fun K "tables_result" "tables_result" sTR f fd)
    (m_zip : mg "zip" = none) (m_sum : mg "sum" = none) (m_tuple : mg "tuple" = none) :
    FnOk P w K mg base CX0 1 f fd ["tables"] (spTabRes K) := by
  refine F.ok scTR (fun vs H Q E h => ?_) (fun cdv A outer s H vs Q E hr h => ?_)
  · obtain ⟨a, tabs, rfl, _⟩ := h; rfl
  · obtain ⟨a, tabs, rfl, hD, hn, hsq, q⟩ := h
    refine ⟨_, pss_one (ps_ret (pe_callTy call_tupQ (by rfl) m_tuple (by decide +kernel) (pa_cons (pe_lc (own := [("table", 1)]) (g := gName 1) (tt := tYes) (te := tCB (rTupQ K) (tCons (tLc (iZipS K (tVar 1)) (gName 2) (tYes) (tCB (rSumT K) (tCons (tVar 2) tNil)) [2]) tNil)) rfl scTR.nd (pi_tup (pv 0)) (blkOk_by (N := ["tables", "table", "column"]) (sc := defScope sTR) (by decide +kernel)) (fun _ _ _ _ _ => pg_name (i := 1) scTR.nd rfl (.inl rfl)) (fun _ _ _ _ _ => pts_nil) (fun _ _ _ _ _ => pe_callTy call_tupQ (by rfl) m_tuple (by decide +kernel) (pa_cons (pe_lc (own := [("column", 2)]) (g := gName 2) (tt := tYes) (te := tCB (rSumT K) (tCons (tVar 2) tNil)) rfl scTR.nd (pi_zipS (by rfl) m_zip (pv 1)) (blkOk_by (N := ["tables", "table", "column"]) (sc := { kind := .function, names := [(".0", .local), ("table", .local), ("tuple", .globalImplicit), ("zip", .globalImplicit)], isGenerator := false, isCoroutine := false }) (by decide +kernel)) (fun _ _ _ _ _ => pg_name (i := 2) scTR.nd rfl (.inl rfl)) (fun _ _ _ _ _ => pts_nil) (fun _ _ _ _ _ => pe_callB (call_sumTQ rfl) (by rfl) m_sum (by decide +kernel) (pa_cons (pv 2) pa_nil))) pa_nil))) pa_nil))), ?_⟩
    cases hD with
    | @tup _ xs _ ha hx =>
    refine ⟨.ref a, rfl, a, rfl, ⟨_, ha⟩, fun D nD => lc_tup (xs := xs)
      (fun j H2 => Same H H2 ∧ ∃ vs, H2 D = some (.lst vs) ∧ vs.length = j ∧ DpAll K H2 vs (((tabs.take j).map colSum).map dI)) ⟨sameNew nD, [], upd_same, rfl, .nil⟩ (fun j H2 _ h2 => (TupK.of h2.1).sq ha) ?_ ?_⟩
    · rintro j x H2 hxj ⟨s2, vs, e2, hvl, hvs⟩
      obtain ⟨d, hd, hxd⟩ := DpAll.at hx hxj
      rw [List.getElem?_map] at hd
      obtain ⟨t, ht, rfl⟩ := Option.map_eq_some_iff.mp hd
      obtain ⟨h1, h7, hrow⟩ := hsq t (List.mem_of_getElem? ht)
      have hjl : j < tabs.length := (List.getElem?_eq_some_iff.mp ht).1
      obtain ⟨ta, ras, rfl, hT, hrl, hrs⟩ := tab_open ((TupK.of s2).dp _ _ (to_dAsg t) hxd)
      have hrs' : ∀ (H4 : Hp), Same H2 H4 → ∀ (k : Nat) (row : Addr) (xs : List V), ras[k]? = some row → (t.map fun r => r.map V.int)[k]? = some xs → SqT K H4 row xs := by
        intro H4 s4 k row xs e1 e2'
        rw [List.getElem?_map] at e2'
        obtain ⟨r, hr, rfl⟩ := Option.map_eq_some_iff.mp e2'
        exact (TupK.of s4).sq (hrs k row r e1 hr)
      refine ⟨rfl, .ref ta, rfl, ta, ras, rfl, hT, by omega, by omega, ?_, fun D2 nD2 => lc_it (walk_zipS (K := K) (rows := ras) (xss := t.map fun r => r.map V.int) (n := t.length) (by omega) (by rw [List.length_map, hrl]) ?_)
        (fun i H4 => Same H2 H4 ∧ H4 D2 = some (.lst (((colSum t).take i).map V.int))) ⟨sameNew nD2, upd_same⟩ (fun i H4 _ h4 => hrs' H4 h4.1) ?_ ?_⟩
      · intro row hr
        obtain ⟨k, hk, e⟩ := List.getElem_of_mem hr
        exact ⟨_, hrs k row t[k] (by rw [List.getElem?_eq_getElem hk, e]) (List.getElem?_eq_getElem (by omega))⟩
      · intro ys hy
        obtain ⟨r, hr, rfl⟩ := List.mem_map.mp hy
        rw [List.length_map]; exact hrow r hr
      · rintro i v H4 H5 hlt ⟨s4, e4⟩ ⟨T, col, rfl, nT, rfl, hcl, hcol⟩
        have hce := col_eq (by rw [hcl, hrl]) hrow hlt hcol
        subst hce
        refine ⟨rfl, .ref T, rfl, T, colAt t i, rfl, SqT.of upd_same, _, upNew nT e4, ?_, samePut (s4.trans (sameNew nT)) nD2, ?_⟩
        · rw [List.length_map, List.length_take]; exact small (by omega)
        · rw [upd_same, take_snoc (colSum_at hlt), List.map_append]; rfl
      · rintro H4 ⟨s4, e4⟩
        rw [List.take_of_length_le (by rw [colSum_len]; exact Nat.le_refl _)] at e4
        refine ⟨D2, _, rfl, .inl ⟨SqL.of e4, fun p np => ?_⟩⟩
        have s5 := s4.trans (sameNew (o := .tup ((colSum t).map V.int)) np)
        have e5 := s5 _ _ e2
        have tk5 : TupK (upd H4 p (.tup ((colSum t).map V.int))) (upd (upd H4 p (.tup ((colSum t).map V.int))) D (.lst (vs ++ [.ref p]))) := TupK.put e5
        refine ⟨vs, e5, by rw [hvl]; exact small (by omega), samePut (s2.trans s5) nD, _, upd_same, by simp [hvl], ?_⟩
        have et : ((tabs.take (j + 1)).map colSum).map dI = ((tabs.take j).map colSum).map dI ++ [dI (colSum t)] := by rw [take_snoc ht]; simp
        rw [et]
        exact DpAll.snoc (((TupK.of s5).trans tk5).dpAll _ _ (to_rows _) hvs) (dI_sq (tk5.sq (SqT.of upd_same)))
    · rintro H2 ⟨s2, vs, e2, hvl, hvs⟩
      rw [DpAll.len hx, List.length_map, List.take_length] at hvs
      exact ⟨D, _, rfl, .inl ⟨SqL.of e2, fun p np => q _ _ (s2.trans (sameNew np)) (.tup (SqT.of upd_same) ((TupK.new np).dpAll _ _ (to_rows _) hvs))⟩⟩
/-! is_table, is_change -/
def tableD (ns : List Int) : PyData → Bool
  | .tuple ds => decide (ds.length = ns.length) && (ns.zip ds).all (fun q => splitD (ns.length : Int) q.1 q.2)
  | _ => false
def spTable (K : PySem.W.Frag) : Sp := fun vs H Q _ => ∃ (st r a : Addr) (v : V) (ns : List Int) (d : PyData), vs = [.ref a, v] ∧ Dp K H (.ref a) (dI ns) ∧ Dq K st r H v d ∧ ns.length ≤ 900 ∧ ∀ H', Same H H' → Q (.bl (tableD ns d)) H'
set_option maxHeartbeats 2000000 in
theorem ok_Ta {f fTo fSp : Addr} {fd fdTo fdSp : FuncData} (F : Fun K "is_table" "is_table" sTa f fd)
    (FTo : Fun K "is_tuple_of" "is_tuple_of" sTupOf fTo fdTo) (bTo : Binds K fdTo ["value", "least", "most"] []) (gTo : mg "is_tuple_of" = some (.ref fTo)) (GTo : FnOk P w K mg base CX0 1 fTo fdTo ["value", "least", "most"] (spTupOf K))
    (FSp : Fun K "is_split" "is_split" sSp fSp fdSp) (bSp : Binds K fdSp ["value", "size", "total"] []) (gSp : mg "is_split" = some (.ref fSp)) (GSp : FnOk P w K mg base CX0 3 fSp fdSp ["value", "size", "total"] (spSplit K))
    (m_len : mg "len" = none) (m_zip : mg "zip" = none) (m_all : mg "all" = none) :
    FnOk P w K mg base CX0 4 f fd ["share", "value"] (spTable K) := by
  refine F.ok scTa (fun vs H Q E h => ?_) (fun cdv A outer s H vs Q E hr h => ?_)
  · obtain ⟨st, r, a, v, ns, d, rfl, _⟩ := h; rfl
  · obtain ⟨st, r, a, v, ns, d, rfl, hA, hd, hn, q⟩ := h
    refine ⟨_, pss_cons (ps_if (pt_not (pt_val (pe_call GTo (hr.mono (by omega)) (by rfl) gTo FTo.kp bTo .nil pass0 (pa_cons (pv 1) (pa_cons (pe_callB call_lenQ (by rfl) m_len PySem.boot_len (pa_cons (pv 0) pa_nil)) (pa_cons (pe_callB call_lenQ (by rfl) m_len PySem.boot_len (pa_cons (pv 0) pa_nil)) pa_nil))))))
        (pss_one (ps_ret (pe_bl))) pss_nil)
      (pss_one (ps_ret (pe_callB (cr_all rfl) (by rfl) m_all (by decide +kernel) (pa_cons (pe_lc (own := [("number", 2), ("row", 3)]) (g := gTup K 2 (gCons (gName 2) (gCons (gName 3) gNil))) (tt := tYes) (te := tCall (spSplit K) [] E0 (tCons (tVar 3) (tCons (tCB (rLenQ K) (tCons (tVar 0) tNil)) (tCons (tVar 2) tNil)))) rfl scTa.nd (RZ.pi_zipA (by rfl) m_zip (pa_cons (pv 0) (pa_cons (pv 1) pa_nil))) (blkOk_by (N := ["share", "value", "number", "row"]) (sc := defScope sTa) (by decide +kernel)) (fun _ _ _ _ _ => pg_tup rfl (pgs_cons (pg_name (i := 2) scTa.nd rfl (.inl rfl)) (pgs_cons (pg_name (i := 3) scTa.nd rfl (.inl rfl)) pgs_nil))) (fun _ _ _ _ _ => pts_nil) (fun _ _ _ _ _ => pe_call GSp (hr.mono (by omega)) (by rfl) gSp FSp.kp bSp .nil pass0 (pa_cons (pv 3) (pa_cons (pe_callB call_lenQ (by rfl) m_len PySem.boot_len (pa_cons (pv 0) pa_nil)) (pa_cons (pv 2) pa_nil))))) pa_nil)))), ?_⟩
    have hS := sq_dI hA
    refine ⟨v, rfl, .ref a, rfl, a, _, rfl, .inr hS, .ref a, rfl, a, _, rfl, .inr hS, st, r, v, d, _, _, rfl, hd, ?_⟩
    rw [List.length_map]
    cases hb : tupOfD (ns.length : Int) (ns.length : Int) d with
    | false =>
      refine ⟨_, rfl, iteT ?_⟩
      have e : tableD ns d = false := by
        cases d with
        | tuple ds =>
          have h1 := of_decide_eq_false hb
          have : ¬ ds.length = ns.length := by omega
          simp [tableD, this]
        | _ => rfl
      have := q H (Same.refl H)
      rw [e] at this
      exact this
    | true =>
    refine ⟨_, rfl, iteF ?_⟩
    cases d with
    | none | bool _ | int _ | str _ | list _ | dict _ => simp [tupOfD] at hb
    | tuple ds =>
    cases hd with
    | @tup va ys _ hV hds =>
    have ly := DqAll.len hds
    have hdl : ds.length = ns.length := by have := of_decide_eq_true hb; omega
    refine ⟨.ref a, rfl, .ref va, rfl, a, va, _, ys, rfl, .inr ⟨hS, hV, fun D nD => lc_it (walk_zipT (K := K) (a := a) (b := va) (xs := ns.map V.int) (ys := ys) rfl)
      (fun j H2 => Same H H2 ∧ H2 D = some (.lst ((((ns.take j).zip (ds.take j)).map (fun q => splitD (ns.length : Int) q.1 q.2)).map V.bl))) ⟨sameNew nD, upd_same⟩ (fun j H2 _ h2 => ⟨(TupK.of h2.1).sq hS, (TupK.of h2.1).sq hV⟩) ?_ ?_⟩⟩
    · rintro j v H2 H3 hlt ⟨s2, e2⟩ ⟨T, x, y, rfl, nT, rfl, hx, hy⟩
      have hx' : (ns.map V.int)[j]? = some x := hx
      have hy' : ys[j]? = some y := hy
      rw [List.getElem?_map] at hx'
      obtain ⟨n, hni, rfl⟩ := Option.map_eq_some_iff.mp hx'
      obtain ⟨dy, hdy, hyd⟩ := DqAll.at hds hy'
      have s3 : Same H (upd H2 T (.tup [.int n, y])) := s2.trans (sameNew nT)
      have hjl : j < ns.length := (List.getElem?_eq_some_iff.mp hni).1
      refine ⟨T, _, rfl, SqT.of upd_same, rfl, _, _, rfl, _, _, rfl, rfl, rfl, y, rfl, .ref a, rfl, a, _, rfl, .inr ((TupK.of s3).sq hS), .int n, rfl, st, r, y, dy, _, _, rfl, hyd.lasts (.of s3), by rw [List.length_map]; omega, fun H4 s4 => ⟨_, s4 _ _ (upNew nT e2), ?_, samePut (s3.trans s4) nD, ?_⟩⟩
      · rw [List.length_map, List.length_map, List.length_zip, List.length_take]; exact small (by omega)
      · rw [upd_same, zip_snoc hni hdy, List.length_map]; simp
    · rintro H2 ⟨s2, e2⟩
      rw [List.length_map, ly, zip_take, List.take_of_length_le (by rw [List.length_zip]; exact Nat.le_refl _)] at e2
      refine ⟨D, _, rfl, SqL.of e2, ?_⟩
      have e : tableD ns (.tuple ds) = ((ns.zip ds).map (fun q => splitD (ns.length : Int) q.1 q.2)).all id := by
        rw [List.all_map]
        simp [tableD, hdl]
      have := q H2 s2
      rw [e] at this
      exact this
def tabRows : PyData → List (List Int)
  | .tuple rs => rs.map rowD
  | _ => []
def changeD (cs : List Int) (gs : List Gp) (asg : List (List Int)) : PyData → Bool
  | .tuple ts => decide (ts.length = asg.length) && ((asg.zip ts).all (fun q => tableD q.1 q.2) && isAD cs gs (dAsg ((ts.map tabRows).map colSum)))
  | _ => false
theorem splitD_row {n t : Int} {d : PyData} (h : splitD n t d = true) : d = dI (rowD d) ∧ ((rowD d).length : Int) = n ∧ shareOk t (rowD d) = true := by
  unfold splitD at h
  cases e : intsOf d with
  | none => rw [e] at h; simp at h
  | some row =>
    rw [e] at h
    have hr : rowD d = row := by unfold rowD; rw [e]; rfl
    rw [hr]
    have h' : decide ((row.length : Int) = n) = true ∧ shareOk t row = true := by simpa using h
    refine ⟨?_, of_decide_eq_true h'.1, h'.2⟩
    cases d with
    | tuple ds => have e' : intsAll ds = some row := e; rw [intsAll_eq e']; rfl
    | _ => simp [intsOf] at e
theorem table_rows {ns : List Int} {d : PyData} (h : tableD ns d = true) : d = dAsg (tabRows d) ∧ (tabRows d).length = ns.length ∧ (∀ r ∈ tabRows d, r.length = ns.length) ∧ ∀ (k : Nat) (n : Int) (r : List Int), ns[k]? = some n → (tabRows d)[k]? = some r → shareOk n r = true := by
  cases d with
  | tuple ds =>
    simp only [tableD, Bool.and_eq_true, decide_eq_true_eq] at h
    obtain ⟨hl, ha⟩ := h
    have hat : ∀ (k : Nat) (n : Int) (d : PyData), ns[k]? = some n → ds[k]? = some d → splitD (ns.length : Int) n d = true := fun k n d h1 h2 =>
      List.all_eq_true.mp ha (n, d) (List.mem_of_getElem? (i := k) (by rw [List.getElem?_zip_eq_some]; exact ⟨h1, h2⟩))
    have hall : ∀ d ∈ ds, d = dI (rowD d) ∧ (rowD d).length = ns.length := fun d hd => by
      obtain ⟨k, hk, e⟩ := List.getElem_of_mem hd
      obtain ⟨h1, h2, _⟩ := splitD_row (hat k ns[k] d (List.getElem?_eq_getElem (by omega)) (by rw [List.getElem?_eq_getElem hk, e]))
      exact ⟨h1, by omega⟩
    refine ⟨?_, by simp [tabRows, hl], fun r hr => ?_, fun k n r h1 h2 => ?_⟩
    · simp only [tabRows, dAsg, List.map_map]
      congr 1
      conv => lhs; rw [← List.map_id ds]
      exact List.map_congr_left fun d hd => (hall d hd).1
    · obtain ⟨d, hd, rfl⟩ := List.mem_map.mp hr
      exact (hall d hd).2
    · have h2' : (ds.map rowD)[k]? = some r := h2
      rw [List.getElem?_map] at h2'
      obtain ⟨d, hd, rfl⟩ := Option.map_eq_some_iff.mp h2'
      exact (splitD_row (hat k n d h1 hd)).2.2
  | _ => simp [tableD] at h
theorem tables_rows {asg : List (List Int)} {ts : List PyData} (hl : ts.length = asg.length) (h : (asg.zip ts).all (fun q => tableD q.1 q.2) = true) : ts = (ts.map tabRows).map dAsg := by
  rw [List.map_map]
  conv => lhs; rw [← List.map_id ts]
  refine List.map_congr_left fun d hd => ?_
  obtain ⟨k, hk, e⟩ := List.getElem_of_mem hd
  have := List.all_eq_true.mp h (asg[k]'(by omega), d) (List.mem_of_getElem? (i := k) (by rw [List.getElem?_zip_eq_some]; exact ⟨List.getElem?_eq_getElem (by omega), by rw [List.getElem?_eq_getElem hk, e]⟩))
  exact (table_rows this).1
theorem tables_sqr {asg : List (List Int)} {ts : List PyData} (hl : ts.length = asg.length) (h : (asg.zip ts).all (fun q => tableD q.1 q.2) = true) (ha : ∀ r ∈ asg, 1 ≤ r.length ∧ r.length ≤ 7) : ∀ t ∈ ts.map tabRows, Sqr t := by
  intro t ht
  obtain ⟨d, hd, rfl⟩ := List.mem_map.mp ht
  obtain ⟨k, hk, e⟩ := List.getElem_of_mem hd
  have := List.all_eq_true.mp h (asg[k]'(by omega), d) (List.mem_of_getElem? (i := k) (by rw [List.getElem?_zip_eq_some]; exact ⟨List.getElem?_eq_getElem (by omega), by rw [List.getElem?_eq_getElem hk, e]⟩))
  obtain ⟨_, h2, h3, _⟩ := table_rows this
  dsimp only at h2 h3
  have hb := ha (asg[k]'(by omega)) (List.getElem_mem _)
  exact ⟨by omega, by omega, fun r hr => by rw [h3 r hr, h2]⟩
theorem colSum_tabs_len (ts : List PyData) : ((ts.map tabRows).map colSum).length = ts.length := by simp
def spIsC (K : PySem.W.Frag) : Sp := fun vs H Q _ => ∃ (st r i a : Addr) (v : V) (cs : List Int) (gs : List Gp) (asg : List (List Int)) (d : PyData), vs = [.ref i, .ref a, v] ∧ Dp K H (.ref i) (dInst cs gs) ∧ Dp K H (.ref a) (dAsg asg) ∧ Dq K st r H v d ∧
  cs.length ≤ 900 ∧ gs.length ≤ 900 ∧ InR cs.length gs ∧ (∀ g ∈ gs, g.1.length ≤ 900) ∧ asg.length ≤ 900 ∧ (∀ r ∈ asg, 1 ≤ r.length ∧ r.length ≤ 7) ∧ ∀ H', Same H H' → Q (.bl (changeD cs gs asg d)) H'
set_option maxHeartbeats 2000000 in
theorem ok_IC {f fTo fTa fTR fIA : Addr} {fd fdTo fdTa fdTR fdIA : FuncData} (F : Fun K "is_change" "is_change" sIC f fd)
    (FTo : Fun K "is_tuple_of" "is_tuple_of" sTupOf fTo fdTo) (bTo : Binds K fdTo ["value", "least", "most"] []) (gTo : mg "is_tuple_of" = some (.ref fTo)) (GTo : FnOk P w K mg base CX0 1 fTo fdTo ["value", "least", "most"] (spTupOf K))
    (FTa : Fun K "is_table" "is_table" sTa fTa fdTa) (bTa : Binds K fdTa ["share", "value"] []) (gTa : mg "is_table" = some (.ref fTa)) (GTa : FnOk P w K mg base CX0 4 fTa fdTa ["share", "value"] (spTable K))
    (FTR : Fun K "tables_result" "tables_result" sTR fTR fdTR) (bTR : Binds K fdTR ["tables"] []) (gTR : mg "tables_result" = some (.ref fTR)) (GTR : FnOk P w K mg base CX0 1 fTR fdTR ["tables"] (spTabRes K))
    (FIA : Fun K "is_assignment" "is_assignment" sIA fIA fdIA) (bIA : Binds K fdIA ["instance", "value"] []) (gIA : mg "is_assignment" = some (.ref fIA)) (GIA : FnOk P w K mg base CX0 4 fIA fdIA ["instance", "value"] (spIsA K))
    (m_len : mg "len" = none) (m_zip : mg "zip" = none) (m_all : mg "all" = none) :
    FnOk P w K mg base CX0 5 f fd ["instance", "assignment", "value"] (spIsC K) := by
  refine F.ok scIC (fun vs H Q E h => ?_) (fun cdv A outer s H vs Q E hr h => ?_)
  · obtain ⟨st, r, i, a, v, cs, gs, asg, d, rfl, _⟩ := h; rfl
  · obtain ⟨st, r, i, a, v, cs, gs, asg, d, rfl, hI, hA, hd, hcs, hgn, hin, hgl, han, hab, q⟩ := h
    refine ⟨_, pss_cons (ps_if (pt_not (pt_val (pe_call GTo (hr.mono (by omega)) (by rfl) gTo FTo.kp bTo .nil pass0 (pa_cons (pv 2) (pa_cons (pe_callB call_lenQ (by rfl) m_len PySem.boot_len (pa_cons (pv 1) pa_nil)) (pa_cons (pe_callB call_lenQ (by rfl) m_len PySem.boot_len (pa_cons (pv 1) pa_nil)) pa_nil))))))
        (pss_one (ps_ret (pe_bl))) pss_nil)
      (pss_cons (ps_if (pt_not (pt_val (pe_callB (cr_all rfl) (by rfl) m_all (by decide +kernel) (pa_cons (pe_lc (own := [("share", 3), ("table", 4)]) (g := gTup K 2 (gCons (gName 3) (gCons (gName 4) gNil))) (tt := tYes) (te := tCall (spTable K) [] E0 (tCons (tVar 3) (tCons (tVar 4) tNil))) rfl scIC.nd (RZ.pi_zipA (by rfl) m_zip (pa_cons (pv 1) (pa_cons (pv 2) pa_nil))) (blkOk_by (N := ["instance", "assignment", "value", "share", "table"]) (sc := defScope sIC) (by decide +kernel)) (fun _ _ _ _ _ => pg_tup rfl (pgs_cons (pg_name (i := 3) scIC.nd rfl (.inl rfl)) (pgs_cons (pg_name (i := 4) scIC.nd rfl (.inl rfl)) pgs_nil))) (fun _ _ _ _ _ => pts_nil) (fun _ _ _ _ _ => pe_call GTa (hr.mono (by omega)) (by rfl) gTa FTa.kp bTa .nil pass0 (pa_cons (pv 3) (pa_cons (pv 4) pa_nil)))) pa_nil))))
        (pss_one (ps_ret (pe_bl))) pss_nil)
      (pss_one (ps_ret (pe_call GIA (hr.mono (by omega)) (by rfl) gIA FIA.kp bIA .nil pass0 (pa_cons (pv 0) (pa_cons (pe_call GTR (hr.mono (by omega)) (by rfl) gTR FTR.kp bTR .nil pass0 (pa_cons (pv 2) pa_nil)) pa_nil)))))), ?_⟩
    obtain ⟨_, xs, e, hS, hxs⟩ := asg_open hA
    cases e
    have lx := DpAll.len hxs
    rw [List.length_map] at lx
    refine ⟨v, rfl, .ref a, rfl, a, _, rfl, .inr hS, .ref a, rfl, a, _, rfl, .inr hS, st, r, v, d, _, _, rfl, hd, ?_⟩
    rw [lx]
    cases hb : tupOfD (asg.length : Int) (asg.length : Int) d with
    | false =>
      refine ⟨_, rfl, iteT ?_⟩
      have e : changeD cs gs asg d = false := by
        cases d with
        | tuple ds =>
          have h1 := of_decide_eq_false hb
          have : ¬ ds.length = asg.length := by omega
          simp [changeD, this]
        | _ => rfl
      have := q H (Same.refl H)
      rw [e] at this
      exact this
    | true =>
    refine ⟨_, rfl, iteF ?_⟩
    cases d with
    | none | bool _ | int _ | str _ | list _ | dict _ => simp [tupOfD] at hb
    | tuple ds =>
    have hd0 := hd
    cases hd with
    | @tup va ys _ hV hds =>
    have ly := DqAll.len hds
    have hdl : ds.length = asg.length := by have := of_decide_eq_true hb; omega
    refine ⟨.ref a, rfl, .ref va, rfl, a, va, xs, ys, rfl, .inr ⟨hS, hV, fun D nD => lc_it (walk_zipT (K := K) (a := a) (b := va) (xs := xs) (ys := ys) rfl)
      (fun j H2 => Same H H2 ∧ H2 D = some (.lst ((((asg.take j).zip (ds.take j)).map (fun q => tableD q.1 q.2)).map V.bl))) ⟨sameNew nD, upd_same⟩ (fun j H2 _ h2 => ⟨(TupK.of h2.1).sq hS, (TupK.of h2.1).sq hV⟩) ?_ ?_⟩⟩
    · rintro j v H2 H3 hlt ⟨s2, e2⟩ ⟨T, x, y, rfl, nT, rfl, hx, hy⟩
      have hx' : xs[j]? = some x := hx
      have hy' : ys[j]? = some y := hy
      obtain ⟨d, hd, hxd⟩ := DpAll.at hxs hx'
      rw [List.getElem?_map] at hd
      obtain ⟨row, hri, rfl⟩ := Option.map_eq_some_iff.mp hd
      obtain ⟨ra, rfl, hR⟩ := dI_ref hxd
      obtain ⟨dy, hdy, hyd⟩ := DqAll.at hds hy'
      have s3 : Same H (upd H2 T (.tup [.ref ra, y])) := s2.trans (sameNew nT)
      have hjl : j < asg.length := (List.getElem?_eq_some_iff.mp hri).1
      have hb7 := hab row (List.mem_of_getElem? hri)
      refine ⟨T, _, rfl, SqT.of upd_same, rfl, _, _, rfl, _, _, rfl, rfl, rfl, .ref ra, rfl, y, rfl, st, r, ra, y, row, dy, rfl, (TupK.of s3).dp _ _ (to_dI row) hxd, hyd.lasts (.of s3), by omega, fun H4 s4 => ⟨_, s4 _ _ (upNew nT e2), ?_, samePut (s3.trans s4) nD, ?_⟩⟩
      · rw [List.length_map, List.length_map, List.length_zip, List.length_take]; exact small (by omega)
      · rw [upd_same, zip_snoc hri hdy]; simp
    · rintro H2 ⟨s2, e2⟩
      rw [lx, ly, zip_take, List.take_of_length_le (by rw [List.length_zip]; exact Nat.le_refl _)] at e2
      refine ⟨D, _, rfl, SqL.of e2, _, rfl, ?_⟩
      cases hall : ((asg.zip ds).map (fun q => tableD q.1 q.2)).all id with
      | false =>
        have e : changeD cs gs asg (.tuple ds) = false := by
          rw [List.all_map] at hall
          simp only [changeD]
          rw [show (asg.zip ds).all (fun q => tableD q.1 q.2) = false from hall, Bool.false_and, Bool.and_false]
        have := q H2 s2
        rw [e] at this
        exact this
      | true =>
        rw [List.all_map] at hall
        have hall' : (asg.zip ds).all (fun q => tableD q.1 q.2) = true := hall
        have hts := tables_rows hdl hall'
        have hsq := tables_sqr hdl hall' hab
        have hT2 : Dp K H (.ref va) (dTabs (ds.map tabRows)) := by
          have : Dq K st r H (.ref va) (dTabs (ds.map tabRows)) := by unfold dTabs; rw [← hts]; exact hd0
          exact this.to_dp (to_dTabs _)
        refine ⟨.ref i, rfl, .ref va, rfl, va, ds.map tabRows, rfl, (TupK.of s2).dp _ _ (to_dTabs _) hT2, by rw [List.length_map]; omega, hsq, fun H3 p s3 hp => ?_⟩
        refine ⟨st, r, i, .ref p, cs, gs, dAsg ((ds.map tabRows).map colSum), rfl, (TupK.of (s2.trans s3)).dp _ _ (to_dInst _ _) hI, Dq.of_dp (to_dAsg _) hp, hcs, hgn, hin, hgl, fun H4 s4 => ?_⟩
        have e : changeD cs gs asg (.tuple ds) = isAD cs gs (dAsg ((ds.map tabRows).map colSum)) := by
          simp only [changeD]
          rw [hall', Bool.true_and, decide_eq_true hdl, Bool.true_and]
        have := q H4 ((s2.trans s3).trans s4)
        rw [e] at this
        exact this
end
end Pv

set_option maxHeartbeats 1000000
/-! a list comprehension of three clauses -/
namespace Pv
open PySem PySem.Spec PyProof.Rows L2
section
variable {X : Cx} {s3 : Shared} {H3 : Hp} {scope : Scope} {ce : Env} {fp0 : List Addr}
abbrev BodyT := L2.St → Hp → (Hp → Prop) → Prop
/-- what one clause's loop wants: each turn the target's store, the tests, then the body, from which the next turn is reached -/
def tTurns (g : TG) (tt : TT) (bt : BodyT) (vs : List Nat) (J : It) (σ : L2.St) (H0 : Hp) (Nout : Hp → Prop) : Prop := ∃ W : Nat → Nat → Hp → Prop, (∃ m, W 0 m H0) ∧ ∀ i m H, W i m H →
  (J.stop i H ∧ Nout H) ∨ (J.go i H ∧ ∃ Nx : Hp → Prop, (∀ H', Nx H' → ∃ m', m' < m ∧ W (i + 1) m' H') ∧ ∀ x H', J.yld i H x H' → g x (wipe σ vs) H' fun σ2 H2 => wipe σ2 vs = wipe σ vs ∧ tt σ2 H2 fun b H3 => if b = true then bt σ2 H3 Nx else Nx H3)
def BodyOk (X : Cx) (s3 : Shared) (H3 : Hp) (scope : Scope) (ce : Env) (fp0 : List Addr) (vs : List Nat) (BODY : Sem Unit) (bt : BodyT) : Prop :=
  ∀ (pins : List (Addr × Obj)) (σ : L2.St) (s : Shared) (H : Hp) (Nx : Hp → Prop), Inv (X.blk s3 H3 scope ce fp0) pins σ H s → bt σ H Nx →
    wpAny (model X.prog X.w) X.A BODY (fun _ s' => ∃ H' σ', Inv (X.blk s3 H3 scope ce fp0) pins σ' H' s' ∧ σ'.length = σ.length ∧ (∀ (j : Nat) v, (wipe σ vs)[j]? = some (some v) → σ'[j]? = some (some v)) ∧ Nx H') (fun _ _ => False) s
theorem clause_loop {elt t : Expr} {gens : List Comprehension} {sc : Scope} {pos : Pos} {d : Nat} {p0 : Pos} {ifs : List Expr} {BODY : Sem Unit} {it D : Addr} {pins : List (Addr × Obj)} {σ : L2.St} {fp : List Addr} {tn : Nat → Heap → Prop} {J : It} {g : TG} {tt : TT} {bt : BodyT} {R : Result → Shared → Prop} {vs : List Nat} {Nout : Hp → Prop} {H0 : Hp} {s0 : Shared}
    (hc : X.calm = true)
    (heq : compTurn (.ListComp elt gens sc pos) d (.ref it) (.ref D) ce = (do
      standAt p0
      match ← pyNext (.ref it) with
      | none => pure (.done .next)
      | some v =>
        letOwnedTupleGo t (.ref it) v
        assign t ce v
        let mut ok := true
        for c in ifs do
          if ok then ok ← isTrue c ce (eval c ce)
        if ok then BODY
        again (.compLoop (.ListComp elt gens sc pos) d (.ref it) (.ref D) ce)))
    (T : Turn X.prog X.w X.K t J fp it tn) (hg : PG (X.blk s3 H3 scope ce fp0) t g) (ht : PTs (X.blk s3 H3 scope ce fp0) ifs tt) (body : BodyOk X s3 H3 scope ce fp0 vs BODY bt)
    (stat : ∀ (σ' : L2.St) (H' : Hp) (s' : Shared), Inv (X.blk s3 H3 scope ce fp0) pins σ' H' s' → (∀ b ∈ fp, H' b = none) → ∀ b ∈ fp, FpOk (X.blk s3 H3 scope ce fp0) pins H' b)
    (turns : tTurns g tt bt vs J σ H0 Nout) (I : Inv (X.blk s3 H3 scope ce fp0) pins (wipe σ vs) H0 s0) (st : tn 0 s0.heap) (n0 : ∀ b ∈ fp, H0 b = none)
    (fin : ∀ s' H', Inv (X.blk s3 H3 scope ce fp0) pins (wipe σ vs) H' s' → Nout H' → R (.ok .next) s') :
    codeAny (model X.prog X.w) X.A (.compLoop (.ListComp elt gens sc pos) d (.ref it) (.ref D) ce) R s0 := by
  obtain ⟨W, ⟨m0, w0⟩, turn⟩ := turns
  refine codeAny_loop rfl (fun n s' => ∃ i H', Inv (X.blk s3 H3 scope ce fp0) pins (wipe σ vs) H' s' ∧ tn i s'.heap ∧ (∀ b ∈ fp, H' b = none) ∧ W i n H') (fun n s5 hI => ?_) m0 ⟨0, H0, I, st, n0, w0⟩
  obtain ⟨i, H5, I5, st5, n5, w5⟩ := hI
  show wpAny _ X.A ((compTurn (.ListComp elt gens sc pos) d (.ref it) (.ref D) ce).onRaise (fun x => do noteFrame x ce; theTreesLotGoes x)) _ _ s5
  refine wpAny_noted ?_
  rw [heq]
  refine wpAny_bind (wpAny_standAt (wpAny_bind ?_))
  rcases turn i n H5 w5 with ⟨stop, nout⟩ | ⟨go, Nx, hNx, step⟩
  · refine thnF (T.done (X.blk s3 H3 scope ce fp0) rfl rfl rfl hc i pins s5 _ H5 (fun _ _ => False) I5 (stat _ _ _ I5 n5) st5 stop) fun r s6 h6 => ?_
    obtain ⟨rfl, I6⟩ := h6
    exact wpAny_pure (fin s6 H5 I6 nout)
  · refine thnF (T.item (X.blk s3 H3 scope ce fp0) rfl rfl rfl hc i pins s5 _ H5 (fun _ _ => False) I5 (stat _ _ _ I5 n5) st5 go) fun r s6 h6 => ?_
    obtain ⟨u, rfl, h6⟩ := h6
    refine wpAny_bind (thnF h6 fun _ s7 h7 => ?_)
    obtain ⟨x, H7, I7, r7, y7, st7, n7⟩ := h7
    have J7 := I7.pinned (stat _ _ _ I7 n7) (T.obj _ _ st7)
    refine wpAny_bind (thnF (hg.run _ s7 _ H7 x u _ J7 r7 (step x H7 y7)) fun _ s8 h8 => ?_)
    obtain ⟨σ8, H8, I8, hw8, q8⟩ := h8
    refine wpAny_bind (thnF (ht.run _ s8 σ8 H8 _ I8 q8) fun b s9 h9 => ?_)
    obtain ⟨H9, I9, q9⟩ := h9
    have next : ∀ (σ9 : L2.St) (s' : Shared) (H' : Hp), Inv (X.blk s3 H3 scope ce fp0) (pins ++ pinsAt fp s7.heap) σ9 H' s' → σ9.length = σ8.length → (∀ (j : Nat) v, (wipe σ8 vs)[j]? = some (some v) → σ9[j]? = some (some v)) → Nx H' →
        ∃ m, m < n ∧ ∃ i H', Inv (X.blk s3 H3 scope ce fp0) pins (wipe σ vs) H' s' ∧ tn i s'.heap ∧ (∀ b ∈ fp, H' b = none) ∧ W i m H' := by
      intro σ9 s' H' I' hl hk nx
      obtain ⟨m', hm, w'⟩ := hNx H' nx
      have held : ∀ b ∈ fp, ∀ o, s7.heap.get? b = some o → s'.heap.get? b = some o ∧ H' b = none := by
        intro b hb o e
        have z := I'.pin (b, o) (List.mem_append_right _ (List.mem_append_right _ (mem_pinsAt hb e)))
        exact ⟨z.1, z.2.1⟩
      refine ⟨m', hm, i + 1, H', I'.unpinned.weak ?_ ?_, T.keep _ _ _ st7 fun b hb o e => (held b hb o e).1, fun b hb => ?_, w'⟩
      · rw [hl, ← hw8, wipe_length]
      · intro j v e
        rw [← hw8] at e
        exact hk j v e
      · obtain ⟨o, e, _⟩ := T.obj _ _ st7 b hb
        exact (held b hb o e).2
    cases b with
    | false => exact wpAny_pure ⟨rfl, next σ8 s9 H9 I9 rfl (fun j v e => (wipe_some e).1) (by simpa using q9)⟩
    | true =>
      refine wpAny_bind (thnF (body _ σ8 s9 H9 Nx I9 (by simpa using q9)) fun _ s10 h10 => ?_)
      obtain ⟨H10, σ10, I10, hl10, hk10, nx⟩ := h10
      exact wpAny_pure ⟨rfl, next σ10 s10 H10 I10 hl10 hk10 nx⟩
/-- the innermost body: the element is appended -/
def btElt (te : TE) (D : Addr) : BodyT := fun σ H Nx => te σ H fun y H7 => ∃ acc, H7 D = some (.lst acc) ∧ acc.length < sizeLine ∧ Nx (upd H7 D (.lst (acc ++ [y])))
theorem body_elt {elt : Expr} {te : TE} {D : Addr} {vs : List Nat} (hE : (X.blk s3 H3 scope ce fp0).env = ce) (pe : PE (X.blk s3 H3 scope ce fp0) elt te) :
    BodyOk X s3 H3 scope ce fp0 vs (do let _ ← call (.builtin "list.append") [.ref D, ← eval elt ce]) (btElt te D) := by
  intro pins σ s H Nx I h
  have run := pe.run pins s σ H _ I h
  rw [hE] at run
  refine wpAny_bind (thnF run fun z s1 h1 => ?_)
  obtain ⟨y, H1, I1, r1, acc, hD, hz, nx⟩ := h1
  refine wpAny_bind (app_ok (X := X.blk s3 H3 scope ce fp0) I1 hD hz r1 fun s2 I2 => wpAny_pure ⟨_, σ, I2, rfl, fun j v e => (wipe_some e).1, nx⟩)
/-- the body that runs a further clause -/
def btNest (wi : TI) (g : TG) (tt : TT) (bt : BodyT) (vs : List Nat) : BodyT := fun σ H Nx => wi σ H fun J H4 => tTurns g tt bt vs J σ H4 Nx
theorem start_at {elt : Expr} {gens : List Comprehension} {sc : Scope} {pos : Pos} {d : Nat} {it acc : Value} {env : Env} {A : Around} {R : Result → Shared → Prop} {s : Shared} {prog : Program} {w : World} {gc : Comprehension} (hcl : (clausesOf (.ListComp elt gens sc pos))[d]? = some gc) (ha : gc.is_async = 0)
    (h0 : codeAny (model prog w) A (.compLoop (.ListComp elt gens sc pos) d it acc env) R s)
    (h : wpAny (model prog w) A (pyIter it) (fun it' s' => codeAny (model prog w) A (.compLoop (.ListComp elt gens sc pos) d it' acc env) R s') (notedBy (model prog w) A env fun x s' => R (.error x) s') s) :
    codeAny (model prog w) A (.compStart (.ListComp elt gens sc pos) d it acc env) R s := by
  refine codeAny_of_tree ?_
  show wpAny _ _ ((compStart (.ListComp elt gens sc pos) d it acc env).onRaise (fun x => do noteFrame x env; standAt theWindowsPlace)) _ _ s
  refine wpAny_notedAt ?_
  unfold compStart
  rw [hcl]
  have hb : (gc.is_async != 0) = false := by rw [ha]; rfl
  simp only [Option.elim_some, hb, Bool.false_eq_true, if_false]
  show wpAny _ _ (ask >>= _) _ _ s
  refine wpAny_bind (wpAny_askSetting (wpAny_ite ?_))
  split
  · first
      | exact wpAny_bind (wpAny_pure (wpAny_pure (And.intro rfl h0)))
      | exact wpAny_pure (And.intro rfl h0)
  · refine wpAny_bind (wpAny_rule ?_)
    refine wpAny_bind (wpAny_standAt ?_)
    exact wpAny_bind (wpAny_mono h (fun it' s' h' => wpAny_pure (And.intro rfl h')) fun _ _ x => x)
theorem body_nest {elt t1 i1 : Expr} {gens : List Comprehension} {sc : Scope} {pos : Pos} {d : Nat} {ifs1 : List Expr} {BODY : Sem Unit} {D : Addr} {vs vs1 : List Nat} {wi1 : TI} {g1 : TG} {tt1 : TT} {bt : BodyT} {gc : Comprehension} (hc : X.calm = true) (hE : (X.blk s3 H3 scope ce fp0).env = ce)
    (hcl : (clausesOf (.ListComp elt gens sc pos))[d]? = some gc) (ha : gc.is_async = 0) (hs : ∀ env x, foldedSetIterable i1 env x = pure x)
    (heq : ∀ it, compTurn (.ListComp elt gens sc pos) d (.ref it) (.ref D) ce = (do
      standAt i1.pos
      match ← pyNext (.ref it) with
      | none => pure (.done .next)
      | some v =>
        letOwnedTupleGo t1 (.ref it) v
        assign t1 ce v
        let mut ok := true
        for c in ifs1 do
          if ok then ok ← isTrue c ce (eval c ce)
        if ok then BODY
        again (.compLoop (.ListComp elt gens sc pos) d (.ref it) (.ref D) ce)))
    (pi1 : PI (X.blk s3 H3 scope ce fp0) t1 i1 wi1) (hg1 : PG (X.blk s3 H3 scope ce fp0) t1 g1) (ht1 : PTs (X.blk s3 H3 scope ce fp0) ifs1 tt1) (body : BodyOk X s3 H3 scope ce fp0 vs1 BODY bt) (hv : ∀ i ∈ vs1, i ∈ vs) :
    BodyOk X s3 H3 scope ce fp0 vs (do
      let x ← eval i1 ce
      standAt i1.pos
      let x ← foldedSetIterable i1 ce x
      let _ ← runOwn (.compStart (.ListComp elt gens sc pos) d (← holding [x] (pyIter x)) (.ref D) ce) ce) (btNest wi1 g1 tt1 bt vs1) := by
  intro pins σ s H Nx I h
  have run := pi1.run pins s σ H _ I h
  rw [hE] at run
  refine wpAny_bind (thnF run fun xv s1 hx => ?_)
  refine wpAny_bind (wpAny_standAt (wpAny_bind (wpAny_of_eq (hs ce xv) (wpAny_bind (wpAny_holding (thnF hx fun itv s2 h2 => ?_))))))
  obtain ⟨it1, fp1, tn1, J1, H2, rfl, I2, T1, st2, f2, turns⟩ := h2
  refine wpAny_bind (wpAny_runOwn ?_)
  rw [Around.mark_none]
  have loop : codeAny (model X.prog X.w) X.A (.compLoop (.ListComp elt gens sc pos) d (.ref it1) (.ref D) ce) (fun r s' => match r with
      | .ok _ => ∃ H' σ', Inv (X.blk s3 H3 scope ce fp0) pins σ' H' s' ∧ σ'.length = σ.length ∧ (∀ (j : Nat) v, (wipe σ vs)[j]? = some (some v) → σ'[j]? = some (some v)) ∧ Nx H'
      | .error _ => False) s2 := by
    refine clause_loop (vs := vs1) hc (heq it1) T1 hg1 ht1 body (fun σ' H' s' _ hn b hb => ⟨hn b hb, (f2 b hb).2⟩) turns (I2.weak (wipe_length _ _) (fun j v e => (wipe_some e).1)) st2 (fun b hb => (f2 b hb).1) ?_
    intro s' H' I' nx
    refine ⟨H', wipe σ vs1, I', wipe_length _ _, fun j v e => ?_, nx⟩
    obtain ⟨e1, e2⟩ := wipe_some e
    rw [wipe_out fun z => e2 (hv j z)]
    exact e1
  refine codeAny_mono (start_at hcl ha loop (T1.self X.A 0 _ _ _ st2 loop)) fun r s' hr => ?_
  cases r with
  | ok f =>
    first
      | exact wpAny_pure hr
      | exact wpAny_bind (wpAny_pure (wpAny_pure hr))
  | error e => exact hr.elim
end
end Pv
namespace Pv
open PySem PySem.Spec PyProof.Rows L2
section
variable {X : Cx}
def tLc3 (wi : TI) (g : TG) (tt : TT) (wi1 : TI) (g1 : TG) (tt1 : TT) (wi2 : TI) (g2 : TG) (tt2 : TT) (te : TE) (vs vs1 vs2 : List Nat) : TE := fun σ H Q => wi σ H fun J H1 => ∀ D, H1 D = none →
  tTurns g tt (btNest wi1 g1 tt1 (btNest wi2 g2 tt2 (btElt te D) vs2) vs1) vs J σ (upd H1 D (.lst [])) (fun H' => Q (.ref D) H')
theorem pe_lc3 {elt tg iter tg1 iter1 tg2 iter2 : Expr} {ifs ifs1 ifs2 : List Expr} {scope : Scope} {own : List (Str × Nat)} {vs1 vs2 : List Nat} {pos : Pos} {wi wi1 wi2 : TI} {g g1 g2 : TG} {tt tt1 tt2 : TT} {te : TE}
    (calm : X.calm = true) (nodup : X.N.Nodup) (src : PI X tg iter wi) (blk : BlkOk X.N X.env.scope scope own) (in1 : ∀ i ∈ vs1, i ∈ own.map (·.2)) (in2 : ∀ i ∈ vs2, i ∈ vs1)
    (hg : ∀ (s : Shared) (H : Hp) (C : Addr) (cl : List (Str × Addr)) (fp : List Addr), PG (X.blk s H scope (compEnvC scope cl C X.env) fp) tg g)
    (ht : ∀ (s : Shared) (H : Hp) (C : Addr) (cl : List (Str × Addr)) (fp : List Addr), PTs (X.blk s H scope (compEnvC scope cl C X.env) fp) ifs tt)
    (src1 : ∀ (s : Shared) (H : Hp) (C : Addr) (cl : List (Str × Addr)) (fp : List Addr), PI (X.blk s H scope (compEnvC scope cl C X.env) fp) tg1 iter1 wi1)
    (hg1 : ∀ (s : Shared) (H : Hp) (C : Addr) (cl : List (Str × Addr)) (fp : List Addr), PG (X.blk s H scope (compEnvC scope cl C X.env) fp) tg1 g1)
    (ht1 : ∀ (s : Shared) (H : Hp) (C : Addr) (cl : List (Str × Addr)) (fp : List Addr), PTs (X.blk s H scope (compEnvC scope cl C X.env) fp) ifs1 tt1)
    (src2 : ∀ (s : Shared) (H : Hp) (C : Addr) (cl : List (Str × Addr)) (fp : List Addr), PI (X.blk s H scope (compEnvC scope cl C X.env) fp) tg2 iter2 wi2)
    (hg2 : ∀ (s : Shared) (H : Hp) (C : Addr) (cl : List (Str × Addr)) (fp : List Addr), PG (X.blk s H scope (compEnvC scope cl C X.env) fp) tg2 g2)
    (ht2 : ∀ (s : Shared) (H : Hp) (C : Addr) (cl : List (Str × Addr)) (fp : List Addr), PTs (X.blk s H scope (compEnvC scope cl C X.env) fp) ifs2 tt2)
    (el : ∀ (s : Shared) (H : Hp) (C : Addr) (cl : List (Str × Addr)) (fp : List Addr), PE (X.blk s H scope (compEnvC scope cl C X.env) fp) elt te)
    (hs : ∀ x, foldedSetIterable iter X.env x = pure x := by intro _; rfl) (hs1 : ∀ env x, foldedSetIterable iter1 env x = pure x := by intro _ _; rfl) (hs2 : ∀ env x, foldedSetIterable iter2 env x = pure x := by intro _ _; rfl) :
    PE X (.ListComp elt [⟨tg, iter, ifs, 0⟩, ⟨tg1, iter1, ifs1, 0⟩, ⟨tg2, iter2, ifs2, 0⟩] scope pos) (tLc3 wi g tt wi1 g1 tt1 wi2 g2 tt2 te (own.map (·.2)) vs1 vs2) := by
  refine ⟨fun pins s σ H Q I h => ?_⟩
  rw [eval_ListComp]
  have caps : ∀ y ∈ scope.names, y.2 = .free → ∃ c, X.env.cells.lookup y.1 = some c := by
    intro y hy e
    rcases blk.free y hy e with k | k
    · exact I.ok.has _ (.inl k)
    · exact I.ok.has _ (.inr k)
  refine wpAny_comprehension_free (use := none) rfl hs (closure_ok caps) blk.kind (fun y hy e => by rw [blk.uniq y hy, e]) (thn (src.run pins s σ H _ I h) fun xv s1 hx => thn hx fun itv s2 h2 => ?_)
  obtain ⟨it, fp, tn, J, H2, rfl, I2, T, st2, f2, q⟩ := h2
  refine wpAny_newObj_type (newEnv_comp ?_) (by show 0 ≤ sizeLine; decide)
  have freeD : H2 s2.heap.objs.size = none := I2.hok.fresh (Nat.le_refl _)
  have turns := q s2.heap.objs.size freeD
  generalize hD : s2.heap.objs.size = D at freeD turns
  generalize hs3 : ({ s2 with heap := s2.heap.push { cls := .type "list", data := .seq ([] : List Value).toArray } } : Shared) = s3
  have hp3 : s3.heap = s2.heap.push { cls := .type "list", data := .seq ([] : List Value).toArray } := by rw [← hs3]
  have I3 : Inv X pins σ (upd H2 D (.lst [])) s3 := by
    rw [← hs3]
    refine I2.laid (t' := s2.toks) (fun b o e => Heap.get?_push_of_some _ e) (Nat.le_of_eq hD) ⟨Nat.zero_le _, [], 0, .nil, ?_⟩
    rw [← hD]
    exact Heap.get?_push_size _ rfl
  have f3 : ∀ b ∈ fp, FpOk X pins (upd H2 D (.lst [])) b ∧ b < s3.heap.objs.size := by
    intro b hb
    obtain ⟨o, e, _⟩ := T.obj _ _ st2 b hb
    have lt := Heap.lt_size e
    refine ⟨⟨?_, (f2 b hb).2⟩, by rw [hp3, Heap.size_push]; exact Nat.lt_succ_of_lt lt⟩
    rw [upd_ne (by rw [← hD]; exact Nat.ne_of_lt lt)]
    exact (f2 b hb).1
  have st3 : tn 0 s3.heap := T.keep _ _ _ st2 fun b _ o e => by rw [hp3]; exact Heap.get?_push_of_some _ e
  have I4 := block_start I3 blk nodup f3
  have none3 : ∀ b ∈ fp, (upd H2 D (.lst [])) b = none := fun b hb => (f3 b hb).1.1
  generalize hH3 : upd H2 D (.lst []) = H3 at I3 I4 none3 f3 turns
  generalize hcl : cellsFrom (s3.heap.objs.size + 1) scope.names (cloFrom X.env.cells scope.names []) = cl at I4
  have rg := hg s3 H3 s3.heap.objs.size cl fp
  have rt := ht s3 H3 s3.heap.objs.size cl fp
  have ri1 := src1 s3 H3 s3.heap.objs.size cl fp
  have rg1 := hg1 s3 H3 s3.heap.objs.size cl fp
  have rt1 := ht1 s3 H3 s3.heap.objs.size cl fp
  have ri2 := src2 s3 H3 s3.heap.objs.size cl fp
  have rg2 := hg2 s3 H3 s3.heap.objs.size cl fp
  have rt2 := ht2 s3 H3 s3.heap.objs.size cl fp
  have re := el s3 H3 s3.heap.objs.size cl fp
  have atL : (compEnvC scope cl s3.heap.objs.size X.env).locals = s3.heap.objs.size := rfl
  show codeAny _ _ (.compStart (.ListComp elt [⟨tg, iter, ifs, 0⟩, ⟨tg1, iter1, ifs1, 0⟩, ⟨tg2, iter2, ifs2, 0⟩] scope pos) 0 (.ref it) (.ref D) (compEnvC scope cl s3.heap.objs.size X.env)) (compPost (model X.prog X.w) X.A X.xe none (EP X pins σ Q) (.ref D) s3.heap.objs.size) { s3 with heap := pushCells (s3.heap.push { cls := .type "dict", data := .dict #[] }) scope.names }
  generalize compEnvC scope cl s3.heap.objs.size X.env = ce at I4 rg rt ri1 rg1 rt1 ri2 rg2 rt2 re atL ⊢
  generalize hs4 : ({ s3 with heap := pushCells (s3.heap.push { cls := .type "dict", data := .dict #[] }) scope.names } : Shared) = s4 at I4 ⊢
  have st4 : tn 0 s4.heap := T.keep _ _ _ st3 fun b _ o e => by rw [← hs4]; exact pushCells_keeps _ _ _ _ (Heap.get?_push_of_some _ e)
  have b2 : BodyOk X s3 H3 scope ce fp vs2 (do let _ ← call (.builtin "list.append") [.ref D, ← eval elt ce]) (btElt te D) := body_elt rfl re
  have b1 : BodyOk X s3 H3 scope ce fp vs1 _ _ := body_nest (elt := elt) (gens := [⟨tg, iter, ifs, 0⟩, ⟨tg1, iter1, ifs1, 0⟩, ⟨tg2, iter2, ifs2, 0⟩]) (sc := scope) (pos := pos) (d := 2) (D := D) calm rfl rfl rfl hs2 (fun _ => rfl) ri2 rg2 rt2 b2 in2
  have b0 : BodyOk X s3 H3 scope ce fp (own.map (·.2)) _ _ := body_nest (elt := elt) (gens := [⟨tg, iter, ifs, 0⟩, ⟨tg1, iter1, ifs1, 0⟩, ⟨tg2, iter2, ifs2, 0⟩]) (sc := scope) (pos := pos) (d := 1) (D := D) calm rfl rfl rfl hs1 (fun _ => by simp only [bind_assoc, pure_bind]; rfl) ri1 rg1 rt1 b1 in1
  have loop : codeAny (model X.prog X.w) X.A (.compLoop (.ListComp elt [⟨tg, iter, ifs, 0⟩, ⟨tg1, iter1, ifs1, 0⟩, ⟨tg2, iter2, ifs2, 0⟩] scope pos) 0 (.ref it) (.ref D) ce) (compPost (model X.prog X.w) X.A X.xe none (EP X pins σ Q) (.ref D) s3.heap.objs.size) s4 := by
    refine clause_loop (pins := []) (σ := σ) (vs := own.map (·.2)) (p0 := iter.pos) calm (by simp only [bind_assoc, pure_bind]; rfl) T rg rt b0 ?_ turns I4 st4 none3 ?_
    · intro σ' H' s' I' hn b hb
      exact ⟨hn b hb, (I'.ok.exf b hb).1, I'.ok.exfs b hb, .inl hb, fun x c e => (I'.ok.exf b hb).2 x c e, fun p hp => absurd (show p ∈ ([] : List (Addr × Obj)) ++ [] from hp) (by simp)⟩
    · intro s' H' I' hq
      have back : Inv X pins σ H' s' := I3.call' (ch := fp) I'.os I'.base I'.hok I'.bare fun b hb => ⟨(f3 b hb).1.2.2.2.1, (f3 b hb).1.2.1, (f3 b hb).1.2.2.2.2.1, (f3 b hb).1.2.2.2.2.2⟩
      have freeC : H' s3.heap.objs.size = none := by
        have z : H' ce.locals = none := I'.free
        rw [atL] at z
        exact z
      obtain ⟨m, hn, _⟩ := I'.loc
      have hn : s'.heap.Ns ce.locals m := hn
      rw [atL] at hn
      obtain ⟨k0, k1, k2, k3, k4, k5⟩ := I3.fpOk (Nat.le_refl _) freeC
      exact ⟨m, hn, fun h'' sb => ⟨.ref D, H', back.turned (t' := s'.toks) (fun b o hb e => (sb.2 b hb).trans e) k0 k1 k3 k4 k5, rfl, hq⟩⟩
  exact codeAny_compStart_list loop (T.self X.A 0 _ _ _ st4 loop)
/-- a clause's turns from a walk -/
theorem turns_it {J : It} {n : Nat} {G : Hp → Prop} {Y : Nat → Hp → V → Hp → Prop} (w : Walk J n G Y) {g : TG} {tt : TT} {bt : BodyT} {vs : List Nat} {σ : L2.St} {H0 : Hp} {Nout : Hp → Prop} (Pv : Nat → Hp → Prop) (h0 : Pv 0 H0) (hG : ∀ i H, i ≤ n → Pv i H → G H)
    (hs : ∀ i x H H', i < n → Pv i H → Y i H x H' → g x (wipe σ vs) H' fun σ2 H2 => wipe σ2 vs = wipe σ vs ∧ tt σ2 H2 fun b H3 => if b = true then bt σ2 H3 (Pv (i + 1)) else Pv (i + 1) H3)
    (hd : ∀ H, Pv n H → Nout H) : tTurns g tt bt vs J σ H0 Nout := by
  refine ⟨fun i m H => m = n - i ∧ i ≤ n ∧ Pv i H, ⟨n, by omega, Nat.zero_le _, h0⟩, ?_⟩
  rintro i m H ⟨rfl, hi, hp⟩
  by_cases hlt : i < n
  · exact .inr ⟨w.goes i H hlt (hG i H hi hp), Pv (i + 1), fun H' h' => ⟨n - (i + 1), by omega, rfl, by omega, h'⟩, fun x H' hy => hs i x H H' hlt hp (w.yields i H x H' hlt (hG i H hi hp) hy)⟩
  · obtain rfl : i = n := by omega
    exact .inl ⟨w.stops H (hG i H hi hp), hd H hp⟩
end
end Pv

namespace Pv
open PySem PySem.Spec PyProof.Rows L2
abbrev sSR : Stmt := topS 15
theorem scSR : FnScope ["share", "option", "end", "number"] ["share", "option"] (defScope sSR) := ⟨rfl, rfl, rfl, by decide +kernel, rfl, by decide +kernel, by decide +kernel⟩
abbrev sSC : Stmt := topS 14
theorem scSC : FnScope ["assignment", "share", "option"] ["assignment"] (defScope sSC) := ⟨rfl, rfl, rfl, by decide +kernel, rfl, by decide +kernel, by decide +kernel⟩

abbrev sCS : Stmt := topS 13
theorem scCS : FnScope ["change", "table", "start", "row", "end", "number"] ["change"] (defScope sCS) := ⟨rfl, rfl, rfl, by decide +kernel, rfl, by decide +kernel, by decide +kernel⟩

theorem iteT' {c : Bool} {A B : Prop} (hc : c = true) (h : A) : if c = true then A else B := by rw [if_pos hc]; exact h
theorem iteF' {c : Bool} {A B : Prop} (hc : c = false) (h : B) : if c = true then A else B := by rw [if_neg (by rw [hc]; decide)]; exact h
def trp (t : List (List Int)) : List (List Int) := (List.range t.length).map fun j => colAt t j
theorem trp_at {t : List (List Int)} {i : Nat} (h : i < t.length) : (trp t)[i]? = some (colAt t i) := by simp [trp, h]
theorem trp_len (t : List (List Int)) : (trp t).length = t.length := by simp [trp]
theorem vote_small (s e : Int) : -(2 ^ 64) < voteI s e ∧ voteI s e < 2 ^ 64 := by
  unfold voteI
  split
  · decide
  · split <;> decide
def stayRow (ns : List Int) (o : Int) : List Int := (List.range ns.length).map fun (j : Nat) => if (j : Int) = o then ns.getD j 0 else 0
def stayTab (ns : List Int) : List (List Int) := (List.range ns.length).map fun (i : Nat) => stayRow ns (i : Int)
theorem stayRow_at {ns : List Int} {o : Int} {i : Nat} {n : Int} (h : ns[i]? = some n) : (stayRow ns o)[i]? = some (if (i : Int) = o then n else 0) := by
  have := (List.getElem?_eq_some_iff.mp h).1
  have e : ns[i] = n := (List.getElem?_eq_some_iff.mp h).2
  simp [stayRow, this, e]
theorem stayTab_at {ns : List Int} {i : Nat} (h : i < ns.length) : (stayTab ns)[i]? = some (stayRow ns (i : Int)) := by simp [stayTab, h]
def rowVotes (i : Nat) (row : List Int) : List Int := (List.range row.length).map fun (j : Nat) => row.getD j 0 * voteI (i : Int) (j : Int)
def tabVotes (t : List (List Int)) : List (List Int) := (List.range t.length).map fun i => rowVotes i (t.getD i [])
def votesOf (tabs : List (List (List Int))) : List Int := (tabs.map fun t => (tabVotes t).flatten).flatten
theorem rowVotes_at {i j : Nat} {row : List Int} {n : Int} (h : row[j]? = some n) : (rowVotes i row)[j]? = some (n * voteI (i : Int) (j : Int)) := by
  have := (List.getElem?_eq_some_iff.mp h).1
  have e : row[j] = n := (List.getElem?_eq_some_iff.mp h).2
  simp [rowVotes, this, e]
theorem tabVotes_at {t : List (List Int)} {i : Nat} {row : List Int} (h : t[i]? = some row) : (tabVotes t)[i]? = some (rowVotes i row) := by
  have := (List.getElem?_eq_some_iff.mp h).1
  have e : t[i] = row := (List.getElem?_eq_some_iff.mp h).2
  simp [tabVotes, this, e]
theorem rowVotes_len (i : Nat) (row : List Int) : (rowVotes i row).length = row.length := by simp [rowVotes]
theorem tabVotes_len (t : List (List Int)) : (tabVotes t).length = t.length := by simp [tabVotes]
section
variable {P : Program} {w : World} {K : PySem.W.Frag} {mg : Str → Option Value} {base : Heap}
def spStR (K : PySem.W.Frag) : Sp := fun vs H Q _ => ∃ (a : Addr) (ns : List Int) (o : Int), vs = [.ref a, .int o] ∧ Dp K H (.ref a) (dI ns) ∧ ns.length ≤ 900 ∧ ∀ H' p, Same H H' → Dp K H' (.ref p) (dI (stayRow ns o)) → Q (.ref p) H'
set_option maxHeartbeats 2000000 in
theorem ok_SR {f : Addr} {fd : FuncData} (F : Fun K "stay_row" "stay_row" sSR f fd)
    (m_enumerate : mg "enumerate" = none) (m_tuple : mg "tuple" = none) :
    FnOk P w K mg base CX0 1 f fd ["share", "option"] (spStR K) := by
  refine F.ok scSR (fun vs H Q E h => ?_) (fun cdv A outer s H vs Q E hr h => ?_)
  · obtain ⟨a, ns, o, rfl, _⟩ := h; rfl
  · obtain ⟨a, ns, o, rfl, hA, hn, q⟩ := h
    refine ⟨_, pss_one (ps_ret (pe_callTy call_tupQ (by rfl) m_tuple (by decide +kernel) (pa_cons (pe_lc (own := [("end", 2), ("number", 3)]) (g := gTup K 2 (gCons (gName 2) (gCons (gName 3) gNil))) (tt := tYes) (te := tIf (tTest (tOp rEq (tVar 2) (tVar 1))) (tVar 3) (tC (.int 0))) rfl scSR.nd (pi_enumT (by rfl) m_enumerate (pa_cons (pv 0) pa_nil)) (blkOk_by (N := ["share", "option", "end", "number"]) (sc := defScope sSR) (by decide +kernel)) (fun _ _ _ _ _ => pg_tup rfl (pgs_cons (pg_name (i := 2) scSR.nd rfl (.inl rfl)) (pgs_cons (pg_name (i := 3) scSR.nd rfl (.inl rfl)) pgs_nil))) (fun _ _ _ _ _ => pts_nil) (fun _ _ _ _ _ => pe_ifExp (pt_cmpR op_eq (pv 2) (pv 1) (nomark _)) (pv 3) (pe_int))) pa_nil))), ?_⟩
    have hS := sq_dI hA
    have lr : (stayRow ns o).length = ns.length := by simp [stayRow]
    refine ⟨.ref a, rfl, a, _, rfl, hS, fun D nD => lc_it (walk_enumT (K := K) (a := a) (xs := ns.map V.int))
      (fun i H2 => Same H H2 ∧ H2 D = some (.lst (((stayRow ns o).take i).map V.int))) ⟨sameNew nD, upd_same⟩ (fun i H2 _ h2 => (TupK.of h2.1).sq hS) ?_ ?_⟩
    · rintro i v H2 H3 hlt ⟨s2, e2⟩ ⟨T, x, y, rfl, nT, rfl, hx, hy⟩
      have hx' : some (V.int (i : Nat)) = some x := hx
      cases hx'
      have hy' : (ns.map V.int)[i]? = some y := hy
      rw [List.getElem?_map] at hy'
      obtain ⟨n, hni, rfl⟩ := Option.map_eq_some_iff.mp hy'
      refine ⟨T, _, rfl, SqT.of upd_same, rfl, _, _, rfl, _, _, rfl, rfl, rfl, .int (i : Nat), rfl, .int o, rfl, rfl, ?_⟩
      have fin : ∀ z : Int, (stayRow ns o)[i]? = some z → ∃ acc, (upd H2 T (.tup [.int (i : Nat), .int n])) D = some (.lst acc) ∧ acc.length < sizeLine ∧ Same H (upd (upd H2 T (.tup [.int (i : Nat), .int n])) D (.lst (acc ++ [.int z]))) ∧ (upd (upd H2 T (.tup [.int (i : Nat), .int n])) D (.lst (acc ++ [.int z]))) D = some (.lst (((stayRow ns o).take (i + 1)).map V.int)) := by
        intro z hz
        refine ⟨_, upNew nT e2, ?_, samePut (s2.trans (sameNew nT)) nD, ?_⟩
        · rw [List.length_map, List.length_take]; exact small (by omega)
        · rw [upd_same, take_snoc hz, List.map_append]; rfl
      have hz := stayRow_at (o := o) hni
      by_cases h1 : (i : Int) = o
      · rw [if_pos h1] at hz
        exact ⟨_, rfl, iteT' (decide_eq_true (by rw [h1])) ⟨_, rfl, fin _ hz⟩⟩
      · rw [if_neg h1] at hz
        exact ⟨_, rfl, iteF' (decide_eq_false (fun z => h1 (V.int.inj z))) (fin _ hz)⟩
    · rintro H2 ⟨s2, e2⟩
      rw [List.length_map, List.take_of_length_le (by omega)] at e2
      exact ⟨D, _, rfl, .inl ⟨SqL.of e2, fun p np => q _ _ (s2.trans (sameNew np)) (dI_sq (SqT.of upd_same))⟩⟩
def spStC (K : PySem.W.Frag) : Sp := fun vs H Q _ => ∃ (a : Addr) (rows : List (List Int)), vs = [.ref a] ∧ Dp K H (.ref a) (dAsg rows) ∧ rows.length ≤ 900 ∧ (∀ r ∈ rows, r.length ≤ 900) ∧ ∀ H' p, Same H H' → Dp K H' (.ref p) (dTabs (rows.map stayTab)) → Q (.ref p) H'
set_option maxHeartbeats 2000000 in
theorem ok_SC {f fSR : Addr} {fd fdSR : FuncData} (F : Fun K "stay_change" "stay_change" sSC f fd)
    (FSR : Fun K "stay_row" "stay_row" sSR fSR fdSR) (bSR : Binds K fdSR ["share", "option"] []) (gSR : mg "stay_row" = some (.ref fSR)) (GSR : FnOk P w K mg base CX0 1 fSR fdSR ["share", "option"] (spStR K))
    (m_len : mg "len" = none) (m_range : mg "range" = none) (m_tuple : mg "tuple" = none) :
    FnOk P w K mg base CX0 2 f fd ["assignment"] (spStC K) := by
  refine F.ok scSC (fun vs H Q E h => ?_) (fun cdv A outer s H vs Q E hr h => ?_)
  · obtain ⟨a, rows, rfl, _⟩ := h; rfl
  · obtain ⟨a, rows, rfl, hA, hn, hrn, q⟩ := h
    refine ⟨_, pss_one (ps_ret (pe_callTy call_tupQ (by rfl) m_tuple (by decide +kernel) (pa_cons (pe_lc (own := [("share", 1)]) (g := gName 1) (tt := tYes) (te := tCB (rTupQ K) (tCons (tLc (iRng1 (tCons (tCB (rLenQ K) (tCons (tVar 1) tNil)) tNil)) (gName 2) (tYes) (tCall (spStR K) [] E0 (tCons (tVar 1) (tCons (tVar 2) tNil))) [2]) tNil)) rfl scSC.nd (pi_tup (pv 0)) (blkOk_by (N := ["assignment", "share", "option"]) (sc := defScope sSC) (by decide +kernel)) (fun _ _ _ _ _ => pg_name (i := 1) scSC.nd rfl (.inr rfl)) (fun _ _ _ _ _ => pts_nil) (fun _ _ _ _ _ => pe_callTy call_tupQ (by rfl) m_tuple (by decide +kernel) (pa_cons (pe_lc (own := [("option", 2)]) (g := gName 2) (tt := tYes) (te := tCall (spStR K) [] E0 (tCons (tVar 1) (tCons (tVar 2) tNil))) rfl scSC.nd (pi_range1 (by rfl) m_range (pa_cons (pe_callB call_lenQ (by rfl) m_len PySem.boot_len (pa_cons (pv 1) pa_nil)) pa_nil)) (blkOk_by (N := ["assignment", "share", "option"]) (sc := { kind := .function, names := [(".0", .local), ("share", .cell), ("tuple", .globalImplicit), ("range", .globalImplicit), ("len", .globalImplicit)], isGenerator := false, isCoroutine := false }) (by decide +kernel)) (fun _ _ _ _ _ => pg_name (i := 2) scSC.nd rfl (.inl rfl)) (fun _ _ _ _ _ => pts_nil) (fun _ _ _ _ _ => pe_call GSR (hr.mono (by omega)) (by rfl) gSR FSR.kp bSR .nil pass0 (pa_cons (pv 1) (pa_cons (pv 2) pa_nil)))) pa_nil))) pa_nil))), ?_⟩
    obtain ⟨_, ys, e, ha, hrows⟩ := asg_open hA
    cases e
    refine ⟨.ref a, rfl, a, rfl, ⟨_, ha⟩, fun D nD => lc_tup (xs := ys)
      (fun j H2 => Same H H2 ∧ ∃ vs, H2 D = some (.lst vs) ∧ vs.length = j ∧ DpAll K H2 vs (((rows.take j).map stayTab).map dAsg)) ⟨sameNew nD, [], upd_same, rfl, .nil⟩ (fun j H2 _ h2 => (TupK.of h2.1).sq ha) ?_ ?_⟩
    · rintro j x H2 hxj ⟨s2, vs, e2, hvl, hvs⟩
      obtain ⟨d, hd, hxd⟩ := DpAll.at hrows hxj
      rw [List.getElem?_map] at hd
      obtain ⟨ns, hns, rfl⟩ := Option.map_eq_some_iff.mp hd
      obtain ⟨rA, rfl, hR⟩ := dI_ref hxd
      have hjl : j < rows.length := (List.getElem?_eq_some_iff.mp hns).1
      have hnl := hrn ns (List.mem_of_getElem? hns)
      have lt : (stayTab ns).length = ns.length := by simp [stayTab]
      refine ⟨rfl, .ref rA, rfl, rA, _, rfl, .inr ((TupK.of s2).sq hR), _, rfl, ?_, ?_, fun D2 nD2 => lc_it (walk_range (lo := 0) (n := ((ns.map V.int).length : Int).toNat))
        (fun i H4 => Same H2 H4 ∧ ∃ ws, H4 D2 = some (.lst ws) ∧ ws.length = i ∧ DpAll K H4 ws (((stayTab ns).take i).map dI)) ⟨sameNew nD2, [], upd_same, rfl, .nil⟩ (fun _ _ _ _ => trivial) ?_ ?_⟩
      · omega
      · rw [List.length_map]; omega
      · rintro i v H4 H5 hlt ⟨s4, ws, e4, hwl, hws⟩ ⟨rfl, rfl⟩
        rw [List.length_map, Int.toNat_natCast] at hlt
        refine ⟨rfl, .ref rA, rfl, _, rfl, rA, ns, _, rfl, dI_sq ((TupK.of (s2.trans s4)).sq hR), hnl, fun H6 p s6 hp => ?_⟩
        have e6 := s6 _ _ e4
        have tk : TupK H6 (upd H6 D2 (.lst (ws ++ [.ref p]))) := TupK.put e6
        refine ⟨ws, e6, by rw [hwl]; exact small (by omega), samePut (s4.trans s6) nD2, _, upd_same, by simp [hwl], ?_⟩
        have hp' : Dp K H6 (.ref p) (dI (stayRow ns (i : Int))) := by simpa using hp
        rw [take_snoc (stayTab_at hlt), List.map_append]
        exact DpAll.snoc (((TupK.of s6).trans tk).dpAll _ _ (to_rows _) hws) (tk.dp _ _ (to_dI _) hp')
      · rintro H4 ⟨s4, ws, e4, hwl, hws⟩
        rw [List.length_map, Int.toNat_natCast, List.take_of_length_le (by omega)] at hws
        refine ⟨D2, _, rfl, .inl ⟨SqL.of e4, fun p np => ?_⟩⟩
        have s5 := s4.trans (sameNew (o := .tup ws) np)
        have e5 := s5 _ _ e2
        have tk5 : TupK (upd H4 p (.tup ws)) (upd (upd H4 p (.tup ws)) D (.lst (vs ++ [.ref p]))) := TupK.put e5
        refine ⟨vs, e5, by rw [hvl]; exact small (by omega), samePut (s2.trans s5) nD, _, upd_same, by simp [hvl], ?_⟩
        have et : ((rows.take (j + 1)).map stayTab).map dAsg = ((rows.take j).map stayTab).map dAsg ++ [dAsg (stayTab ns)] := by rw [take_snoc hns]; simp
        rw [et]
        exact DpAll.snoc (((TupK.of s5).trans tk5).dpAll _ _ (to_tabs _) hvs) (tk5.dp _ _ (to_dAsg _) (.tup (SqT.of upd_same) ((TupK.new np).dpAll _ _ (to_rows _) hws)))
    · rintro H2 ⟨s2, vs, e2, hvl, hvs⟩
      rw [DpAll.len hrows, List.length_map, List.take_length] at hvs
      exact ⟨D, _, rfl, .inl ⟨SqL.of e2, fun p np => q _ _ (s2.trans (sameNew np)) (.tup (SqT.of upd_same) ((TupK.new np).dpAll _ _ (to_tabs _) hvs))⟩⟩
def spRev (K : PySem.W.Frag) : Sp := fun vs H Q _ => ∃ (a : Addr) (tabs : List (List (List Int))), vs = [.ref a] ∧ Dp K H (.ref a) (dTabs tabs) ∧ tabs.length ≤ 900 ∧ (∀ t ∈ tabs, Sqr t) ∧ ∀ H' p, Same H H' → Dp K H' (.ref p) (dTabs (tabs.map trp)) → Q (.ref p) H'
def spChR (K : PySem.W.Frag) : Sp := fun vs H Q _ => ∃ (i a p : Addr) (cs : List Int) (gs : List Gp) (asg : List (List Int)) (tabs : List (List (List Int))), vs = [.ref i, .ref a, .ref p] ∧ Dp K H (.ref i) (dInst cs gs) ∧ Dp K H (.ref a) (dAsg asg) ∧ Dp K H (.ref p) (dTabs tabs) ∧
  (cs.length ≤ 900 ∧ gs.length ≤ 900 ∧ InR cs.length gs ∧ (∀ g ∈ gs, g.1.length ≤ 900) ∧ asg.length ≤ 900 ∧ ∀ r ∈ asg, 1 ≤ r.length ∧ r.length ≤ 7) ∧ changeD cs gs asg (dTabs tabs) = true ∧ (∀ t ∈ tabs, Sqr t) ∧ tabs.length ≤ 900 ∧ ∀ H' p', Same H H' → Dp K H' (.ref p') (dAsg (tabs.map colSum)) → Q (.ref p') H'
def lastI (row : List Int) : Int := row.getLastD 0
theorem last_at {row : List Int} (h : row ≠ []) : atI (row.map V.int) (-1) = some (.int (lastI row)) := by
  have e : row = row.dropLast ++ [lastI row] := by
    unfold lastI
    rw [List.getLastD_eq_getLast?, List.getLast?_eq_some_getLast h]
    exact (List.dropLast_concat_getLast h).symm
  rw [e, List.map_append, List.map_singleton, ← e]
  exact atI_last _ _
def spUn (K : PySem.W.Frag) : Sp := fun vs H Q _ => ∃ (i a : Addr) (rows : List (List Int)), vs = [.ref i, .ref a] ∧ Dp K H (.ref a) (dAsg rows) ∧ rows.length ≤ 1000 ∧ (∀ row ∈ rows, row ≠ []) ∧
  ∀ H', Same H H' → Q (.int (rows.map lastI).sum) H'
end
end Pv

namespace Pv
open PySem PySem.Spec PyProof.Rows L2
section
variable {P : Program} {w : World} {K : PySem.W.Frag} {mg : Str → Option Value} {base : Heap}
def spSur (K : PySem.W.Frag) : Sp := fun vs H Q _ => ∃ (a : Addr) (tabs : List (List (List Int))), vs = [.ref a] ∧ Dp K H (.ref a) (dTabs tabs) ∧ tabs.length ≤ 20 ∧ (∀ t ∈ tabs, Sqr t) ∧ ∀ H', Same H H' → Q (.int (votesOf tabs).sum) H'
theorem flat_le {ls : List (List Int)} {b : Nat} (h : ∀ l ∈ ls, l.length ≤ b) : ls.flatten.length ≤ b * ls.length := by
  induction ls with
  | nil => simp
  | cons l ls ih =>
    have h1 := h l (by simp)
    have h2 := ih (fun m hm => h m (by simp [hm]))
    rw [List.flatten_cons, List.length_append, List.length_cons, Nat.mul_succ]
    omega
theorem tabV_le {t : List (List Int)} (h : Sqr t) : ((tabVotes t).flatten).length ≤ 49 := by
  have := flat_le (ls := tabVotes t) (b := 7) (by
    intro l hl
    obtain ⟨i, hi, rfl⟩ := List.mem_map.mp hl
    rw [rowVotes_len]
    have hi' := List.mem_range.mp hi
    rw [List.getD_eq_getElem?_getD, List.getElem?_eq_getElem hi']
    have := h.2.2 t[i] (List.getElem_mem hi')
    have := h.2.1
    simp only [Option.getD_some]
    omega)
  rw [tabVotes_len] at this
  have := h.2.1
  omega
set_option maxHeartbeats 2000000 in
theorem ok_CS {f fVo : Addr} {fd fdVo : FuncData} (F : Fun K "change_surplus" "change_surplus" sCS f fd)
    (FVo : Fun K "vote" "vote" sVo fVo fdVo) (bVo : Binds K fdVo ["start", "end"] []) (gVo : mg "vote" = some (.ref fVo)) (GVo : FnOk P w K mg base CX0 1 fVo fdVo ["start", "end"] spVo)
    (m_enumerate : mg "enumerate" = none) (m_sum : mg "sum" = none) :
    FnOk P w K mg base CX0 2 f fd ["change"] (spSur K) := by
  refine F.ok scCS (fun vs H Q E h => ?_) (fun cdv A outer s H vs Q E hr h => ?_)
  · obtain ⟨a, tabs, rfl, _⟩ := h; rfl
  · obtain ⟨a, tabs, rfl, hD, hn, hsq, q⟩ := h
    refine ⟨_, pss_one (ps_ret (pe_callB (cr_sum rfl) (by rfl) m_sum (by decide +kernel) (pa_cons (pe_lc3 (own := [("table", 1), ("start", 2), ("row", 3), ("end", 4), ("number", 5)]) (vs1 := [2, 3, 4, 5]) (vs2 := [4, 5]) (g := gName 1) (tt := tYes) (wi1 := iEnumT K (tCons (tVar 1) tNil)) (g1 := gTup K 2 (gCons (gName 2) (gCons (gName 3) gNil))) (tt1 := tYes) (wi2 := iEnumT K (tCons (tVar 3) tNil)) (g2 := gTup K 2 (gCons (gName 4) (gCons (gName 5) gNil))) (tt2 := tYes) (te := tOp (rI CMul fun i j => .int (i * j)) (tVar 5) (tCall spVo [] E0 (tCons (tVar 2) (tCons (tVar 4) tNil)))) rfl scCS.nd (pi_tup (pv 0)) (blkOk_by (N := ["change", "table", "start", "row", "end", "number"]) (sc := defScope sCS) (by decide +kernel)) (by decide) (by decide) (fun _ _ _ _ _ => pg_name (i := 1) scCS.nd rfl (.inl rfl)) (fun _ _ _ _ _ => pts_nil) (fun _ _ _ _ _ => pi_enumT (by rfl) m_enumerate (pa_cons (pv 1) pa_nil)) (fun _ _ _ _ _ => pg_tup rfl (pgs_cons (pg_name (i := 2) scCS.nd rfl (.inl rfl)) (pgs_cons (pg_name (i := 3) scCS.nd rfl (.inl rfl)) pgs_nil))) (fun _ _ _ _ _ => pts_nil) (fun _ _ _ _ _ => pi_enumT (by rfl) m_enumerate (pa_cons (pv 3) pa_nil)) (fun _ _ _ _ _ => pg_tup rfl (pgs_cons (pg_name (i := 4) scCS.nd rfl (.inl rfl)) (pgs_cons (pg_name (i := 5) scCS.nd rfl (.inl rfl)) pgs_nil))) (fun _ _ _ _ _ => pts_nil) (fun _ _ _ _ _ => pe_op op_mul (pv 5) (pe_call GVo (hr.mono (by omega)) (by rfl) gVo FVo.kp bVo .nil pass0 (pa_cons (pv 2) (pa_cons (pv 4) pa_nil))))) pa_nil))), ?_⟩
    cases hD with
    | @tup _ xs _ ha hx =>
    have lx := DpAll.len hx
    rw [List.length_map] at lx
    have cap : ∀ (j : Nat) (m : Nat) (t : List (List Int)) (i : Nat) (row : List Int), tabs[j]? = some t → t[i]? = some row → m ≤ row.length → (votesOf (tabs.take j) ++ (((tabVotes t).take i).flatten ++ (rowVotes i row).take m)).length < sizeLine := by
      intro j m t i row ht hi hm
      have hst := hsq t (List.mem_of_getElem? ht)
      have h1 := flat_le (ls := (tabs.take j).map fun t => (tabVotes t).flatten) (b := 49) (by
        intro l hl
        obtain ⟨u, hu, rfl⟩ := List.mem_map.mp hl
        exact tabV_le (hsq u (List.mem_of_mem_take hu)))
      have h2 := flat_le (ls := (tabVotes t).take i) (b := 7) (by
        intro l hl
        obtain ⟨k, hk, rfl⟩ := List.mem_map.mp (List.mem_of_mem_take hl)
        rw [rowVotes_len]
        have hk' := List.mem_range.mp hk
        rw [List.getD_eq_getElem?_getD, List.getElem?_eq_getElem hk']
        have := hst.2.2 t[k] (List.getElem_mem hk')
        have := hst.2.1
        simp only [Option.getD_some]
        omega)
      have h3 := hst.2.2 row (List.mem_of_getElem? hi)
      have h4 := hst.2.1
      rw [List.length_map, List.length_take] at h1
      rw [List.length_take, tabVotes_len] at h2
      unfold votesOf
      rw [List.length_append, List.length_append, List.length_take, rowVotes_len]
      exact small (by omega)
    refine ⟨.ref a, rfl, a, rfl, ⟨_, ha⟩, fun D nD => turns_it (walk_tup (K := K) (a := a) (xs := xs))
      (fun j H2 => Same H H2 ∧ H2 D = some (.lst ((votesOf (tabs.take j)).map V.int))) ⟨sameNew nD, upd_same⟩ (fun j H2 _ h2 => (TupK.of h2.1).sq ha) ?_ ?_⟩
    · rintro j x H2 H2' hlt ⟨s2, e2⟩ ⟨rfl, hxj⟩
      obtain ⟨d, hd, hxd⟩ := DpAll.at hx hxj
      rw [List.getElem?_map] at hd
      obtain ⟨t, ht, rfl⟩ := Option.map_eq_some_iff.mp hd
      obtain ⟨h1, h7, hrow⟩ := hsq t (List.mem_of_getElem? ht)
      obtain ⟨ta, ras, rfl, hT, hrl, hrs⟩ := tab_open hxd
      refine ⟨rfl, .ref ta, rfl, ta, _, rfl, (TupK.of s2).sq hT, ?_⟩
      show tTurns _ _ _ _ _ [some (.ref a), some (.ref ta), none, none, none, none] _ _
      refine turns_it (walk_enumT (K := K) (a := ta) (xs := ras.map V.ref))
        (fun i H4 => Same H H4 ∧ H4 D = some (.lst ((votesOf (tabs.take j) ++ ((tabVotes t).take i).flatten).map V.int))) ⟨s2, ?_⟩ (fun i H4 _ h4 => (TupK.of h4.1).sq hT) ?_ ?_
      · rw [e2]; simp
      · rintro i v H4 H5 hlt4 ⟨s4, e4⟩ ⟨T, x4, y4, rfl, nT, rfl, hx4, hy4⟩
        have hx' : some (V.int (i : Nat)) = some x4 := hx4
        cases hx'
        have hy' : (ras.map V.ref)[i]? = some y4 := hy4
        rw [List.getElem?_map] at hy'
        obtain ⟨ra, hra, rfl⟩ := Option.map_eq_some_iff.mp hy'
        rw [List.length_map] at hlt4
        have hil : i < t.length := by omega
        have hti : t[i]? = some t[i] := List.getElem?_eq_getElem hil
        have hR := hrs i ra t[i] hra hti
        have s5 : Same H (upd H4 T (.tup [.int (i : Nat), .ref ra])) := s4.trans (sameNew nT)
        have e5 : (upd H4 T (.tup [.int (i : Nat), .ref ra])) D = _ := upNew nT e4
        refine ⟨T, _, rfl, SqT.of upd_same, rfl, _, _, rfl, _, _, rfl, rfl, rfl, .ref ra, rfl, ra, _, rfl, (TupK.of s5).sq hR, ?_⟩
        show tTurns _ _ _ _ _ [some (.ref a), some (.ref ta), some (.int (i : Nat)), some (.ref ra), none, none] _ _
        refine turns_it (walk_enumT (K := K) (a := ra) (xs := t[i].map V.int))
          (fun m H6 => Same H H6 ∧ H6 D = some (.lst ((votesOf (tabs.take j) ++ (((tabVotes t).take i).flatten ++ (rowVotes i t[i]).take m)).map V.int))) ⟨s5, ?_⟩ (fun m H6 _ h6 => (TupK.of h6.1).sq hR) ?_ ?_
        · rw [e5]; simp
        · rintro m v H6 H7 hlt6 ⟨s6, e6⟩ ⟨T2, x6, y6, rfl, nT2, rfl, hx6, hy6⟩
          have hx' : some (V.int (m : Nat)) = some x6 := hx6
          cases hx'
          have hy' : (t[i].map V.int)[m]? = some y6 := hy6
          rw [List.getElem?_map] at hy'
          obtain ⟨n, hnm, rfl⟩ := Option.map_eq_some_iff.mp hy'
          rw [List.length_map] at hlt6
          refine ⟨T2, _, rfl, SqT.of upd_same, rfl, _, _, rfl, _, _, rfl, rfl, rfl, .int n, rfl, .int (i : Nat), rfl, .int (m : Nat), rfl, (i : Int), (m : Int), rfl, n, voteI (i : Int) (m : Int), rfl, rfl, .inr (vote_small _ _), ?_⟩
          refine ⟨_, upNew nT2 e6, ?_, samePut (s6.trans (sameNew nT2)) nD, ?_⟩
          · rw [List.length_map]; exact cap j m t i _ ht hti (by omega)
          · rw [upd_same, take_snoc (rowVotes_at hnm)]; simp
        · rintro H6 ⟨s6, e6⟩
          refine ⟨s6, ?_⟩
          rw [List.length_map, List.take_of_length_le (l := rowVotes i t[i]) (by rw [rowVotes_len]; exact Nat.le_refl _)] at e6
          rw [e6, take_snoc (tabVotes_at hti)]; simp
      · rintro H4 ⟨s4, e4⟩
        refine ⟨s4, ?_⟩
        rw [List.length_map, List.take_of_length_le (l := tabVotes t) (by rw [tabVotes_len]; omega)] at e4
        rw [e4, take_snoc ht]; simp [votesOf]
    · rintro H2 ⟨s2, e2⟩
      rw [lx, List.take_length] at e2
      exact ⟨D, _, rfl, SqL.of e2, q _ s2⟩
end
end Pv

namespace Pv
open PySem PySem.Spec PyProof.Rows L2
/-! sums over an index -/
def sumr (n : Nat) (f : Nat → Int) : Int := ((List.range n).map f).sum
theorem sumr_zero (f : Nat → Int) : sumr 0 f = 0 := rfl
theorem sumr_succ (n : Nat) (f : Nat → Int) : sumr (n + 1) f = sumr n f + f n := by
  unfold sumr; rw [List.range_succ, List.map_append, List.sum_append]; simp
theorem sumr_congr {n : Nat} {f g : Nat → Int} (h : ∀ i, i < n → f i = g i) : sumr n f = sumr n g := by
  induction n with
  | zero => rfl
  | succ n ih => rw [sumr_succ, sumr_succ, ih fun i hi => h i (by omega), h n (by omega)]
theorem sumr_le {n : Nat} {f g : Nat → Int} (h : ∀ i, i < n → f i ≤ g i) : sumr n f ≤ sumr n g := by
  induction n with
  | zero => exact Int.le_refl _
  | succ n ih =>
    rw [sumr_succ, sumr_succ]
    have := ih fun i hi => h i (by omega)
    have := h n (by omega)
    omega
theorem sumr_add (n : Nat) (f g : Nat → Int) : sumr n (fun i => f i + g i) = sumr n f + sumr n g := by
  induction n with
  | zero => rfl
  | succ n ih => rw [sumr_succ, sumr_succ, sumr_succ, ih]; omega
theorem sumr_sub (n : Nat) (f g : Nat → Int) : sumr n (fun i => f i - g i) = sumr n f - sumr n g := by
  induction n with
  | zero => rfl
  | succ n ih => rw [sumr_succ, sumr_succ, sumr_succ, ih]; omega
theorem sumr_mul (n : Nat) (f : Nat → Int) (c : Int) : sumr n (fun i => f i * c) = sumr n f * c := by
  induction n with
  | zero => show (0 : Int) = 0 * c; rw [Int.zero_mul]
  | succ n ih => rw [sumr_succ, sumr_succ, ih, Int.add_mul]
theorem sumr_const (n : Nat) : sumr n (fun _ => 0) = 0 := by
  induction n with
  | zero => rfl
  | succ n ih => rw [sumr_succ, ih]; rfl
theorem sumr_swap (n k : Nat) (f : Nat → Nat → Int) : sumr n (fun i => sumr k fun j => f i j) = sumr k fun j => sumr n fun i => f i j := by
  induction n with
  | zero => rw [sumr_zero]; exact (sumr_const k).symm
  | succ n ih =>
    rw [sumr_succ, ih, ← sumr_add]
    exact sumr_congr fun j _ => (sumr_succ n fun i => f i j).symm
theorem sumr_one {n : Nat} {f : Nat → Int} {a : Nat} (ha : a < n) (h : ∀ i, i < n → i ≠ a → f i = 0) : sumr n f = f a := by
  induction n with
  | zero => omega
  | succ n ih =>
    rw [sumr_succ]
    by_cases e : a = n
    · subst e
      rw [show sumr a f = 0 from (sumr_congr fun i hi => h i (by omega) (by omega)).trans (sumr_const a)]; omega
    · rw [ih (by omega) fun i hi => h i (by omega), h n (by omega) (by omega)]; omega
theorem sum_at {α : Type} (f : α → Int) (d : α) (l : List α) : (l.map f).sum = sumr l.length fun i => f (l.getD i d) := by
  induction l with
  | nil => rfl
  | cons a l ih =>
    rw [List.map_cons, List.sum_cons, ih, List.length_cons]
    have : ∀ n (g : Nat → Int), sumr (n + 1) g = g 0 + sumr n fun i => g (i + 1) := fun n g => by
      induction n with
      | zero => rw [sumr_succ]; show 0 + g 0 = g 0 + 0; omega
      | succ n ih' => rw [sumr_succ, ih', sumr_succ n]; omega
    rw [this]
    rfl
theorem sum_at0 (l : List Int) : l.sum = sumr l.length fun i => l.getD i 0 := by
  have := sum_at id 0 l
  rw [List.map_id] at this
  exact this
theorem sum_flat (ls : List (List Int)) : ls.flatten.sum = (ls.map List.sum).sum := by
  induction ls with
  | nil => rfl
  | cons l ls ih => rw [List.flatten_cons, List.sum_append, List.map_cons, List.sum_cons, ih]
/-! rows, votes, prices -/
def dotR (v q : List Int) : Int := sumr v.length fun e => v.getD e 0 * q.getD e 0
theorem mx_ge {l : List Int} {e : Nat} (h : e < l.length) : l.getD e 0 ≤ mx l := by
  refine (mx_spec (List.ne_nil_of_length_pos (by omega))).2 _ ?_
  rw [List.getD_eq_getElem?_getD, List.getElem?_eq_getElem h]
  exact List.getElem_mem h
theorem gains_at {s : Int} {q : List Int} {e : Nat} (h : e < q.length) : (gains s q).getD e 0 = voteI s e - q.getD e 0 := by
  unfold gains
  rw [List.getD_eq_getElem?_getD, List.getElem?_map, List.getElem?_range h]; rfl
theorem gains_len (s : Int) (q : List Int) : (gains s q).length = q.length := by unfold gains; rw [List.length_map, List.length_range]
theorem rowV_sum (s : Nat) (v : List Int) : (rowVotes s v).sum = sumr v.length fun e => v.getD e 0 * voteI (s : Int) (e : Int) := rfl
theorem gain_sum (s : Nat) {v q : List Int} (h : v.length = q.length) : (sumr v.length fun e => v.getD e 0 * (gains (s : Int) q).getD e 0) = (rowVotes s v).sum - dotR v q := by
  rw [rowV_sum]
  unfold dotR
  rw [← sumr_sub]
  refine sumr_congr fun e he => ?_
  rw [gains_at (by omega), Int.mul_sub]
theorem weakRow (s : Nat) {v q : List Int} (h : v.length = q.length) (h0 : ∀ e, e < v.length → 0 ≤ v.getD e 0) : (rowVotes s v).sum - dotR v q ≤ v.sum * mx (gains (s : Int) q) := by
  rw [← gain_sum s h, sum_at0 v, ← sumr_mul]
  refine sumr_le fun e he => ?_
  exact Int.mul_le_mul_of_nonneg_left (mx_ge (by rw [gains_len]; omega)) (h0 e he)
theorem strongRow (s : Nat) {v q : List Int} (h : v.length = q.length) (h0 : ∀ e, e < v.length → v.getD e 0 ≠ 0 → (gains (s : Int) q).getD e 0 = mx (gains (s : Int) q)) : (rowVotes s v).sum - dotR v q = v.sum * mx (gains (s : Int) q) := by
  rw [← gain_sum s h, sum_at0 v, ← sumr_mul]
  refine sumr_congr fun e he => ?_
  by_cases z : v.getD e 0 = 0
  · rw [z, Int.zero_mul, Int.zero_mul]
  · rw [h0 e he z]
/-- a table of a group whose numbers are row -/
structure TabOk (k : Nat) (row : List Int) (T : List (List Int)) : Prop where
  rl : row.length = k
  tl : T.length = k
  cl : ∀ s, s < k → (T.getD s []).length = k
  nn : ∀ s e, s < k → e < k → 0 ≤ (T.getD s []).getD e 0
  sm : ∀ s, s < k → (T.getD s []).sum = row.getD s 0
theorem tabV_sum (T : List (List Int)) : ((tabVotes T).flatten).sum = sumr T.length fun s => (rowVotes s (T.getD s [])).sum := by
  rw [sum_flat]
  unfold tabVotes sumr
  rw [List.map_map]; rfl
theorem colS_dot {k : Nat} {row : List Int} {T : List (List Int)} (h : TabOk k row T) (q : List Int) : dotR (colSum T) q = sumr k fun s => dotR (T.getD s []) q := by
  unfold dotR
  rw [colSum_len, h.tl]
  have e1 : ∀ s, s < k → (sumr (T.getD s []).length fun e => (T.getD s []).getD e 0 * q.getD e 0) = sumr k fun e => (T.getD s []).getD e 0 * q.getD e 0 := fun s hs => by rw [h.cl s hs]
  rw [sumr_congr e1, sumr_swap]
  refine sumr_congr fun e he => ?_
  have e2 : (colSum T).getD e 0 = (colAt T e).sum := by rw [List.getD_eq_getElem?_getD, colSum_at (by rw [h.tl]; exact he)]; rfl
  rw [e2, sumr_mul]
  congr 1
  show (T.map fun r => r.getD e 0).sum = _
  rw [sum_at (fun r : List Int => r.getD e 0) [] T, h.tl]
theorem weakTab {k : Nat} {row : List Int} {T : List (List Int)} (h : TabOk k row T) {q : List Int} (hq : q.length = k) : ((tabVotes T).flatten).sum - dotR (colSum T) q ≤ rowLim q row := by
  rw [tabV_sum, colS_dot h, h.tl, ← sumr_sub]
  show _ ≤ sumr row.length (partAt q row)
  rw [h.rl]
  refine sumr_le fun s hs => ?_
  have := weakRow s (v := T.getD s []) (q := q) (by rw [h.cl s hs, hq]) fun e he => h.nn s e hs (by rw [h.cl s hs] at he; exact he)
  rw [h.sm s hs] at this
  exact this
theorem strongTab {k : Nat} {row : List Int} {T : List (List Int)} (h : TabOk k row T) {q : List Int} (hq : q.length = k)
    (hs : ∀ s e, s < k → e < k → (T.getD s []).getD e 0 ≠ 0 → (gains (s : Int) q).getD e 0 = mx (gains (s : Int) q)) : ((tabVotes T).flatten).sum - dotR (colSum T) q = rowLim q row := by
  rw [tabV_sum, colS_dot h, h.tl, ← sumr_sub]
  show _ = sumr row.length (partAt q row)
  rw [h.rl]
  refine sumr_congr fun s hs' => ?_
  have := strongRow s (v := T.getD s []) (q := q) (by rw [h.cl s hs', hq]) fun e he => hs s e hs' (by rw [h.cl s hs'] at he; exact he)
  rw [h.sm s hs'] at this
  exact this
/-! loads -/
theorem dot_addAt {ls q : List Int} {p x : Int} (hp : 0 ≤ p ∧ p < (ls.length : Int)) : dotR (addAt ls p x) q = dotR ls q + x * q.getD p.toNat 0 := by
  unfold dotR
  rw [addAt_len]
  have hlt : p.toNat < ls.length := by omega
  have e1 : ∀ e, e < ls.length → (addAt ls p x).getD e 0 * q.getD e 0 = ls.getD e 0 * q.getD e 0 + (if e = p.toNat then x * q.getD e 0 else 0) := fun e he => by
    unfold addAt
    simp only [List.getD_eq_getElem?_getD, List.getElem?_set]
    by_cases z : p.toNat = e
    · rw [if_pos z, if_pos hlt, if_pos z.symm, z]
      simp only [Option.getD_some]
      rw [Int.add_mul]
    · rw [if_neg z, if_neg (fun y => z y.symm)]; omega
  rw [sumr_congr e1, sumr_add]
  congr 1
  rw [sumr_one hlt fun i _ hi => if_neg hi, if_pos rfl]
theorem dot_rowLoads {q : List Int} : ∀ {ps row ls : List Int}, (∀ p ∈ ps, 0 ≤ p ∧ p < (ls.length : Int)) → row.length = ps.length + 1 → dotR (rowLoads ls ps row) q = dotR ls q + dotR row (costsOf q ps)
  | [], row, ls, _, hr => by
    obtain ⟨x, rfl⟩ : ∃ x, row = [x] := by
      cases row with
      | nil => simp at hr
      | cons a r => cases r with
        | nil => exact ⟨a, rfl⟩
        | cons b r => simp at hr
    have e1 : rowLoads ls [] [x] = ls := rfl
    have e2 : dotR [x] (costsOf q []) = 0 := by unfold dotR costsOf; simp [sumr]
    rw [e1, e2]; omega
  | p :: ps, row, ls, hp, hr => by
    cases row with
    | nil => simp at hr
    | cons x row =>
      have ih := dot_rowLoads (q := q) (ps := ps) (row := row) (ls := addAt ls p x) (fun p' h => by rw [addAt_len]; exact hp p' (List.mem_cons_of_mem _ h)) (by simpa using hr)
      have e0 : rowLoads ls (p :: ps) (x :: row) = rowLoads (addAt ls p x) ps row := rfl
      rw [e0, ih, dot_addAt (hp p List.mem_cons_self)]
      have e1 : dotR (x :: row) (costsOf q (p :: ps)) = x * q.getD p.toNat 0 + dotR row (costsOf q ps) := by
        unfold dotR
        rw [List.length_cons]
        have : ∀ n (g : Nat → Int), sumr (n + 1) g = g 0 + sumr n fun i => g (i + 1) := fun n g => by
          induction n with
          | zero => rw [sumr_succ]; show 0 + g 0 = g 0 + 0; omega
          | succ n ih' => rw [sumr_succ, ih', sumr_succ n]; omega
        rw [this]
        rfl
      rw [e1]; omega
theorem dot_loads {q : List Int} : ∀ {gs : List Gp} {rows : List (List Int)} {ls : List Int}, rows.length = gs.length → (∀ g ∈ gs, ∀ p ∈ g.1, 0 ≤ p ∧ p < (ls.length : Int)) → (∀ (i : Nat) (g : Gp) (row : List Int), gs[i]? = some g → rows[i]? = some row → row.length = g.1.length + 1) →
    dotR (loadsFrom ls gs rows) q = dotR ls q + sumr gs.length fun j => dotR (rows.getD j []) (costsOf q (gs.getD j ([], 0)).1)
  | [], rows, ls, _, _, _ => by
    show dotR ls q = dotR ls q + 0
    omega
  | g :: gs, rows, ls, hl, hp, hr => by
    cases rows with
    | nil => simp at hl
    | cons row rows =>
      have e0 : loadsFrom ls (g :: gs) (row :: rows) = loadsFrom (rowLoads ls g.1 row) gs rows := rfl
      have ih := dot_loads (q := q) (gs := gs) (rows := rows) (ls := rowLoads ls g.1 row) (by simpa using hl) (fun g' h p hp' => by rw [rowLoads_len]; exact hp g' (List.mem_cons_of_mem _ h) p hp') fun i g' row' h1 h2 => hr (i + 1) g' row' (by simpa using h1) (by simpa using h2)
      rw [e0, ih, dot_rowLoads (hp g List.mem_cons_self) (hr 0 g row rfl rfl), List.length_cons]
      have : ∀ n (f : Nat → Int), sumr (n + 1) f = f 0 + sumr n fun i => f (i + 1) := fun n f => by
        induction n with
        | zero => rw [sumr_succ]; show 0 + f 0 = f 0 + 0; omega
        | succ n ih' => rw [sumr_succ, ih', sumr_succ n]; omega
      rw [this]
      show _ = dotR ls q + (dotR row (costsOf q g.1) + sumr gs.length fun j => dotR (rows.getD j []) (costsOf q (gs.getD j ([], 0)).1))
      omega
theorem dot_zeros (n : Nat) (q : List Int) : dotR (zeros n) q = 0 := by
  unfold dotR
  rw [show (fun e => (zeros n).getD e 0 * q.getD e 0) = fun _ => 0 from funext fun e => by
    have : (zeros n).getD e 0 = 0 := by unfold zeros; rw [List.getD_eq_getElem?_getD, List.getElem?_replicate]; split <;> rfl
    rw [this, Int.zero_mul]]
  exact sumr_const _
/-! a change of an assignment, and prices -/
structure ChTb (gs : List Gp) (rows : List (List Int)) (tabs : List (List (List Int))) : Prop where
  rl : rows.length = gs.length
  tl : tabs.length = gs.length
  tb : ∀ j, j < gs.length → TabOk ((gs.getD j ([], 0)).1.length + 1) (rows.getD j []) (tabs.getD j [])
structure ChOk (cs : List Int) (gs : List Gp) (rows : List (List Int)) (tabs : List (List (List Int))) : Prop extends ChTb gs rows tabs where
  ld : ∀ c, c < cs.length → (loadsFrom (zeros cs.length) gs (tabs.map colSum)).getD c 0 ≤ cs.getD c 0
theorem costs_len (q ps : List Int) : (costsOf q ps).length = ps.length + 1 := by unfold costsOf; simp
theorem getD_map0 {α : Type} (f : α → List Int) (l : List α) (d : α) (j : Nat) (h : j < l.length) : (l.map f).getD j [] = f (l.getD j d) := by
  simp only [List.getD_eq_getElem?_getD, List.getElem?_map, List.getElem?_eq_getElem h]; rfl
section
variable {cs : List Int} {gs : List Gp} {rows : List (List Int)} {tabs : List (List (List Int))} {q : List Int}
theorem votes_sum (h : tabs.length = gs.length) : (votesOf tabs).sum = sumr gs.length fun j => ((tabVotes (tabs.getD j [])).flatten).sum := by
  unfold votesOf
  rw [sum_flat, List.map_map, sum_at _ [] tabs, h]; rfl
theorem loads_dot (h : ChTb gs rows tabs) (hp : ∀ g ∈ gs, ∀ p ∈ g.1, 0 ≤ p ∧ p < (cs.length : Int)) (q : List Int) : dotR (loadsFrom (zeros cs.length) gs (tabs.map colSum)) q = sumr gs.length fun j => dotR (colSum (tabs.getD j [])) (costsOf q (gs.getD j ([], 0)).1) := by
  have lz : (zeros cs.length).length = cs.length := by simp [zeros]
  rw [dot_loads (by rw [List.length_map]; exact h.tl) (by rw [lz]; exact hp) (fun i g row h1 h2 => ?_), dot_zeros, Int.zero_add]
  · refine sumr_congr fun j hj => ?_
    rw [getD_map0 colSum tabs [] j (by rw [h.tl]; exact hj)]
  · rw [List.getElem?_map] at h2
    obtain ⟨T, hT, rfl⟩ := Option.map_eq_some_iff.mp h2
    have hi := (List.getElem?_eq_some_iff.mp h1).1
    have tb := h.tb i hi
    have e1 : gs.getD i ([], 0) = g := by rw [List.getD_eq_getElem?_getD, h1]; rfl
    have e2 : tabs.getD i [] = T := by rw [List.getD_eq_getElem?_getD, hT]; rfl
    rw [e1, e2] at tb
    rw [colSum_len, tb.tl]
theorem lim_eq (cs : List Int) (gs : List Gp) (rows : List (List Int)) (q : List Int) (hq : q.length = cs.length) : limI cs gs rows q gs.length = dotR cs q + sumr gs.length fun j => rowLim (costsOf q (gs.getD j ([], 0)).1) (rows.getD j []) := by
  unfold limI capLim dotR sumr
  rw [hq, Nat.min_self]
/-- no change has more votes than the limit -/
theorem weakDual (h : ChOk cs gs rows tabs) (hp : ∀ g ∈ gs, ∀ p ∈ g.1, 0 ≤ p ∧ p < (cs.length : Int)) (hq : q.length = cs.length) (h0 : ∀ x ∈ q, 0 ≤ x) : (votesOf tabs).sum ≤ limI cs gs rows q gs.length := by
  rw [lim_eq cs gs rows q hq, votes_sum h.tl]
  have h1 : sumr gs.length (fun j => ((tabVotes (tabs.getD j [])).flatten).sum) ≤ sumr gs.length fun j => rowLim (costsOf q (gs.getD j ([], 0)).1) (rows.getD j []) + dotR (colSum (tabs.getD j [])) (costsOf q (gs.getD j ([], 0)).1) := sumr_le fun j hj => by
    have := weakTab (h.tb j hj) (costs_len q _)
    omega
  rw [sumr_add, ← loads_dot h.toChTb hp] at h1
  have h2 : dotR (loadsFrom (zeros cs.length) gs (tabs.map colSum)) q ≤ dotR cs q := by
    unfold dotR
    rw [loadsFrom_len, show (zeros cs.length).length = cs.length by simp [zeros]]
    refine sumr_le fun c hc => Int.mul_le_mul_of_nonneg_right (h.ld c hc) ?_
    rw [List.getD_eq_getElem?_getD, List.getElem?_eq_getElem (by omega)]
    exact h0 _ (List.getElem_mem _)
  omega
/-- where every applicant goes where it is best, and every post with a price is full, they meet -/
theorem strongDual (h : ChOk cs gs rows tabs) (hp : ∀ g ∈ gs, ∀ p ∈ g.1, 0 ≤ p ∧ p < (cs.length : Int)) (hq : q.length = cs.length)
    (hs : ∀ j s e, j < gs.length → s < (gs.getD j ([], 0)).1.length + 1 → e < (gs.getD j ([], 0)).1.length + 1 → (((tabs.getD j []).getD s []).getD e 0) ≠ 0 → (gains (s : Int) (costsOf q (gs.getD j ([], 0)).1)).getD e 0 = mx (gains (s : Int) (costsOf q (gs.getD j ([], 0)).1)))
    (hf : ∀ c, c < cs.length → (loadsFrom (zeros cs.length) gs (tabs.map colSum)).getD c 0 * q.getD c 0 = cs.getD c 0 * q.getD c 0) : (votesOf tabs).sum = limI cs gs rows q gs.length := by
  rw [lim_eq cs gs rows q hq, votes_sum h.tl]
  have h1 : sumr gs.length (fun j => ((tabVotes (tabs.getD j [])).flatten).sum) = sumr gs.length fun j => rowLim (costsOf q (gs.getD j ([], 0)).1) (rows.getD j []) + dotR (colSum (tabs.getD j [])) (costsOf q (gs.getD j ([], 0)).1) := sumr_congr fun j hj => by
    have := strongTab (h.tb j hj) (costs_len q _) fun s e hs' he hz => hs j s e hj hs' he hz
    omega
  rw [h1, sumr_add, ← loads_dot h.toChTb hp]
  have h2 : dotR (loadsFrom (zeros cs.length) gs (tabs.map colSum)) q = dotR cs q := by
    unfold dotR
    rw [loadsFrom_len, show (zeros cs.length).length = cs.length by simp [zeros]]
    exact sumr_congr fun c hc => hf c hc
  omega
end
end Pv

namespace Pv
open PySem PySem.Spec PyProof.Rows L2
/-! rows added one after the other -/
inductive Runs (t0 : Tr.T) : List (Tr.Row × Int) → Tr.T → Prop
  | nil : Runs t0 [] t0
  | snoc {l t L x t'} : Runs t0 l t → Tr.AddR L t.plan.length (Tr.newRow t L) x t' none → Runs t0 (l ++ [(L, x)]) t'
theorem Runs.uniq {t0 : Tr.T} {l : List (Tr.Row × Int)} {t t' : Tr.T} (h : Runs t0 l t) (g : Runs t0 l t') : t = t' := by
  induction h generalizing t' with
  | nil =>
    generalize hl : ([] : List (Tr.Row × Int)) = l at g
    cases g with
    | nil => rfl
    | snoc _ _ => simp at hl
  | @snoc l1 t1 L x t2 h1 h2 ih =>
    generalize hl : l1 ++ [(L, x)] = l at g
    cases g with
    | nil => simp at hl
    | @snoc l3 t3 L3 x3 t4 g1 g2 =>
      obtain ⟨e1, e2⟩ := List.append_inj' hl rfl
      subst e1
      have e2 : (L, x) = (L3, x3) := by simpa using e2
      cases e2
      have := ih g1
      subst this
      exact (h2.uniq g2).1
structure RunOk (t0 : Tr.T) (l : List (Tr.Row × Int)) (t : Tr.T) : Prop where
  wf : Tr.Wf t
  pot : ∃ p, Tr.Pot t p
  rl : t.room.length = t0.room.length
  cs : t.costs = l.map (·.1)
  pl : t.plan.length = l.length
  col : ∀ c, 0 ≤ c → Tr.colS t.plan c + Tr.rm t c = Tr.rm t0 c
  row : ∀ i : Nat, (t.plan[i]?).map Tr.rs = (l[i]?).map (·.2)
theorem runOk_nil {room : List Int} (h : ∀ x ∈ room, 0 ≤ x) : RunOk ⟨room, [], []⟩ [] ⟨room, [], []⟩ :=
  ⟨⟨rfl, (fun i P Q e _ => by simp at e), (fun Q h => by cases h), (fun Q h => by cases h), (fun P h => by cases h), h⟩, ⟨fun _ => 0, fun _ => Int.le_refl _, fun _ _ => rfl, fun i a b x ar => by obtain ⟨P, Q, e, _⟩ := ar; simp at e⟩, rfl, rfl, rfl, fun c _ => by show (0 : Int) + _ = _; omega, fun i => by simp⟩
section
variable {t0 t t' : Tr.T} {l : List (Tr.Row × Int)} {L : Tr.Row} {x : Int} {r : Option (List (Int × Tr.Lb))}
theorem RunOk.kept (h : RunOk t0 l t) (nd : (Tr.ks L).Nodup) (hr : ∀ k ∈ Tr.ks L, 0 ≤ k ∧ k < t.room.length) (g : Tr.AddR L t.plan.length (Tr.newRow t L) x t' r) : Tr.Kept L t.plan.length (Tr.newRow t L) x t' r := by
  obtain ⟨p, hp⟩ := h.pot
  refine g.kept (Tr.new_wf h.wf nd hr) (Tr.new_pot h.wf hp) ?_
  show (t.costs ++ [L])[t.plan.length]? = _
  rw [h.wf.len, List.getElem?_append_right (Nat.le_refl _), Nat.sub_self]; rfl
theorem new_col (t : Tr.T) (L : Tr.Row) (c : Int) : Tr.colS (Tr.newRow t L).plan c = Tr.colS t.plan c := by
  show ((t.plan ++ [Tr.zeroRow L]).map _).sum = _
  rw [List.map_append, List.sum_append]
  show _ + (Tr.num (Tr.zeroRow L) c + 0) = _
  rw [Tr.num_zero]
  unfold Tr.colS
  omega
theorem RunOk.snoc (h : RunOk t0 l t) (nd : (Tr.ks L).Nodup) (hr : ∀ k ∈ Tr.ks L, 0 ≤ k ∧ k < t.room.length) (hx : 0 ≤ x) (g : Tr.AddR L t.plan.length (Tr.newRow t L) x t' none) : RunOk t0 (l ++ [(L, x)]) t' := by
  have k := h.kept nd hr g
  have hl : (Tr.newRow t L).plan.length = t.plan.length + 1 := by show (t.plan ++ [_]).length = _; rw [List.length_append]; rfl
  have en : ∀ i : Nat, (Tr.newRow t L).plan[i]? = if i < t.plan.length then t.plan[i]? else if i = t.plan.length then some (Tr.zeroRow L) else none := fun i => by
    show (t.plan ++ [Tr.zeroRow L])[i]? = _
    rw [List.getElem?_append]
    split
    · rfl
    · rename_i h1
      split
      · rename_i h2; rw [h2, Nat.sub_self]; rfl
      · exact List.getElem?_eq_none (by simp; omega)
  refine ⟨k.wf, k.pot, k.rl.trans h.rl, ?_, ?_, fun c hc => ?_, fun i => ?_⟩
  · rw [k.cs, List.map_append, ← h.cs]; rfl
  · rw [k.pl, hl, List.length_append, h.pl]; rfl
  · rw [k.col c hc, new_col]; exact h.col c hc
  · by_cases e : i = t.plan.length
    · subst e
      rw [k.ok rfl, en, if_neg (Nat.lt_irrefl _), if_pos rfl, h.pl, List.getElem?_append_right (Nat.le_refl _), Nat.sub_self]
      show some (Tr.rs (Tr.zeroRow L) + max x 0) = some x
      rw [Tr.rs_zero]; congr 1; omega
    · rw [k.row i e, en, List.getElem?_append]
      by_cases h1 : i < t.plan.length
      · rw [if_pos h1, if_pos (by rw [← h.pl]; exact h1)]; exact h.row i
      · rw [if_neg h1, if_neg e, if_neg (by rw [← h.pl]; exact h1)]
        rw [List.getElem?_eq_none (by rw [← h.pl]; simp; omega)]; rfl
theorem getD_mem {l : List Int} {e : Nat} (h : e < l.length) : l.getD e 0 ∈ l := by
  rw [List.getD_eq_getElem?_getD, List.getElem?_eq_getElem h]; exact List.getElem_mem _
theorem getD_some {l : List Int} {e : Nat} (h : e < l.length) : l[e]? = some (l.getD e 0) := by
  rw [List.getD_eq_getElem?_getD, List.getElem?_eq_getElem h]; rfl
theorem rs_nn : ∀ {R : Tr.Row}, (∀ e ∈ R, 0 ≤ e.2) → 0 ≤ Tr.rs R
  | [], _ => Int.le_refl _
  | a :: R, h => by
    have := rs_nn fun e he => h e (List.mem_cons_of_mem a he)
    have := h a List.mem_cons_self
    show 0 ≤ a.2 + Tr.rs R
    omega
theorem num_le_rs {R : Tr.Row} (h0 : ∀ e ∈ R, 0 ≤ e.2) (k : Int) : Tr.num R k ≤ Tr.rs R := by
  induction R with
  | nil => exact Int.le_refl _
  | cons e R ih =>
    have h1 := h0 e List.mem_cons_self
    have ih := ih fun e' he => h0 e' (List.mem_cons_of_mem _ he)
    have h2 := rs_nn fun e' he => h0 e' (List.mem_cons_of_mem e he)
    show (if e.1 = k then some e.2 else Tr.gv R k).getD 0 ≤ e.2 + Tr.rs R
    split
    · show e.2 ≤ _; omega
    · show Tr.num R k ≤ _; omega
theorem row_nn {t : Tr.T} (W : Tr.Wf t) {i : Nat} {P : Tr.Row} (e : t.plan[i]? = some P) : (Tr.ks P).Nodup ∧ ∀ a ∈ P, 0 ≤ a.2 := by
  have hi := (List.getElem?_eq_some_iff.mp e).1
  have hc : i < t.costs.length := by rw [← W.len]; exact hi
  have nd : (Tr.ks P).Nodup := by rw [W.key i P _ e (List.getElem?_eq_getElem hc)]; exact W.nd _ (List.getElem_mem hc)
  refine ⟨nd, fun a ha => ?_⟩
  have := W.pn P (List.mem_of_getElem? e) a.1
  rwa [num_gv (Tr.gv_of_mem nd ha)] at this
theorem col_le {t : Tr.T} (W : Tr.Wf t) (c : Int) : Tr.colS t.plan c ≤ (t.plan.map Tr.rs).sum := by
  have h : ∀ P ∈ t.plan, Tr.num P c ≤ Tr.rs P := fun P hP => by
    obtain ⟨i, e⟩ := List.getElem?_of_mem hP
    exact num_le_rs (row_nn W e).2 c
  unfold Tr.colS
  generalize t.plan = l at h
  induction l with
  | nil => exact Int.le_refl _
  | cons P l ih =>
    have := ih fun P' hP => h P' (List.mem_cons_of_mem _ hP)
    have := h P List.mem_cons_self
    simp only [List.map_cons, List.sum_cons]
    omega
theorem sum_eq_of_at : ∀ {a b : List Int}, (∀ i : Nat, a[i]? = b[i]?) → a.sum = b.sum := fun h => by rw [List.ext_getElem? h]
/-- a row that may leave for a column with room enough finds room -/
theorem RunOk.none (h : RunOk t0 l t) (nd : (Tr.ks L).Nodup) (hr : ∀ k ∈ Tr.ks L, 0 ≤ k ∧ k < t.room.length) {m : Int} (hm : m ∈ Tr.ks L) (hs : (l.map (·.2)).sum + x < Tr.rm t0 m) (g : Tr.AddR L t.plan.length (Tr.newRow t L) x t' r) : r = none := by
  have k := h.kept nd hr g
  cases er : r with
  | none => rfl
  | some F =>
    exfalso
    obtain ⟨f, full, y, hy, ey⟩ := k.bad F er
    obtain ⟨xm, exm⟩ := Tr.gv_of_ks hm
    obtain ⟨lm, elm, _⟩ := f.top m xm exm
    have h1 := full m lm elm
    have hm0 := (hr m hm).1
    have h2 := k.col m hm0
    rw [new_col] at h2
    have h3 := h.col m hm0
    have h2 : Tr.colS t'.plan m + Tr.rm t' m = Tr.rm t0 m := h2.trans h3
    have h4 := col_le k.wf m
    have hl : (Tr.newRow t L).plan.length = t.plan.length + 1 := by show (t.plan ++ [_]).length = _; rw [List.length_append]; rfl
    have h5 : (t'.plan.map Tr.rs).sum = ((l.map (·.2)) ++ [y]).sum := by
      refine sum_eq_of_at fun i => ?_
      rw [List.getElem?_map]
      by_cases e : i = t.plan.length
      · subst e
        rw [ey, h.pl, List.getElem?_append_right (by rw [List.length_map]; exact Nat.le_refl _), List.length_map, Nat.sub_self]
        have : (Tr.newRow t L).plan[l.length]? = some (Tr.zeroRow L) := by
          show (t.plan ++ [Tr.zeroRow L])[l.length]? = _
          rw [← h.pl, List.getElem?_append_right (Nat.le_refl _), Nat.sub_self]; rfl
        rw [this]
        show some (Tr.rs (Tr.zeroRow L) + y) = some y
        rw [Tr.rs_zero]; congr 1; omega
      · rw [k.row i e]
        show ((t.plan ++ [Tr.zeroRow L])[i]?).map Tr.rs = _
        rw [List.getElem?_append, List.getElem?_append, List.length_map, ← h.pl]
        by_cases h6 : i < t.plan.length
        · rw [if_pos h6, if_pos h6, h.row i, List.getElem?_map]
        · rw [if_neg h6, if_neg h6, List.getElem?_eq_none (by simp; omega), List.getElem?_eq_none (by simp; omega)]; rfl
    rw [h5, List.sum_append] at h4
    simp only [List.sum_cons, List.sum_nil] at h4
    omega
end
/-! the rows of votes -/
def colsOf (m : Nat) (ps : List Int) : List Int := ps ++ [(m : Int)]
def voteRow (m : Nat) (ps : List Int) (s : Nat) : Tr.Row := (List.range (ps.length + 1)).map fun e => ((colsOf m ps).getD e 0, -voteI (s : Int) (e : Int))
theorem colsOf_len (m : Nat) (ps : List Int) : (colsOf m ps).length = ps.length + 1 := by unfold colsOf; simp
theorem ks_voteRow (m : Nat) (ps : List Int) (s : Nat) : Tr.ks (voteRow m ps s) = colsOf m ps := by
  unfold voteRow Tr.ks
  rw [List.map_map]
  refine List.ext_getElem? fun i => ?_
  rw [List.getElem?_map]
  by_cases h : i < ps.length + 1
  · rw [List.getElem?_range h, List.getElem?_eq_getElem (by rw [colsOf_len]; exact h)]
    show some ((colsOf m ps).getD i 0) = _
    rw [List.getD_eq_getElem?_getD, List.getElem?_eq_getElem (by rw [colsOf_len]; exact h)]; rfl
  · rw [List.getElem?_eq_none (by simp; omega), List.getElem?_eq_none (by rw [colsOf_len]; omega)]; rfl
theorem cols_nd {m : Nat} {ps : List Int} (nd : ps.Nodup) (hr : ∀ p ∈ ps, 0 ≤ p ∧ p < (m : Int)) : (colsOf m ps).Nodup :=
  List.nodup_append.mpr ⟨nd, List.nodup_cons.mpr ⟨by simp, List.nodup_nil⟩, fun a ha b hb e => by
    have : b = (m : Int) := by simpa using hb
    have := hr a ha
    omega⟩
theorem gv_voteRow {m : Nat} {ps : List Int} (nd : (colsOf m ps).Nodup) (s : Nat) {e : Nat} (he : e < ps.length + 1) : Tr.gv (voteRow m ps s) ((colsOf m ps).getD e 0) = some (-voteI (s : Int) (e : Int)) := by
  have hm : ((colsOf m ps).getD e 0, -voteI (s : Int) (e : Int)) ∈ voteRow m ps s := List.mem_map.mpr ⟨e, List.mem_range.mpr he, rfl⟩
  exact Tr.gv_of_mem (by rw [ks_voteRow]; exact nd) hm
def itemsOf (m : Nat) (ps : List Int) (row : List Int) : List (Tr.Row × Int) := (List.range row.length).map fun s => (voteRow m ps s, row.getD s 0)
def allItems (m : Nat) : List Gp → List (List Int) → List (Tr.Row × Int)
  | g :: gs, row :: rows => itemsOf m g.1 row ++ allItems m gs rows
  | [], _ => []
  | _ :: _, [] => []
def off : List (List Int) → Nat → Nat
  | _, 0 => 0
  | [], _ + 1 => 0
  | row :: rows, j + 1 => row.length + off rows j
theorem itemsOf_len (m : Nat) (ps row : List Int) : (itemsOf m ps row).length = row.length := by unfold itemsOf; rw [List.length_map, List.length_range]
theorem items_len (m : Nat) : ∀ {gs : List Gp} {rows : List (List Int)}, rows.length = gs.length → (allItems m gs rows).length = off rows rows.length
  | [], rows, h => by
    have : rows = [] := List.eq_nil_of_length_eq_zero h
    rw [this]; rfl
  | g :: gs, [], h => by simp at h
  | g :: gs, row :: rows, h => by
    show (itemsOf m g.1 row ++ allItems m gs rows).length = row.length + off rows rows.length
    rw [List.length_append, itemsOf_len, items_len m (by simpa using h)]
theorem off_le : ∀ {rows : List (List Int)} {j : Nat} {row : List Int}, rows[j]? = some row → off rows j + row.length ≤ off rows rows.length
  | [], j, row, h => by simp at h
  | r :: rows, 0, row, h => by
    have : r = row := by simpa using h
    subst this
    show 0 + r.length ≤ r.length + off rows rows.length
    omega
  | r :: rows, j + 1, row, h => by
    have := off_le (rows := rows) (j := j) (row := row) (by simpa using h)
    show r.length + off rows j + row.length ≤ r.length + off rows rows.length
    omega
theorem items_at (m : Nat) : ∀ {gs : List Gp} {rows : List (List Int)} {j : Nat} {g : Gp} {row : List Int} {s : Nat}, gs[j]? = some g → rows[j]? = some row → rows.length = gs.length → s < row.length → (allItems m gs rows)[off rows j + s]? = some (voteRow m g.1 s, row.getD s 0)
  | [], rows, j, g, row, s, h, _, _, _ => by simp at h
  | g' :: gs, [], j, g, row, s, _, h, _, _ => by simp at h
  | g' :: gs, r :: rows, 0, g, row, s, h1, h2, _, hs => by
    have h1 : g' = g := by simpa using h1
    have h2 : r = row := by simpa using h2
    subst h1 h2
    show (itemsOf m g'.1 r ++ allItems m gs rows)[0 + s]? = _
    rw [Nat.zero_add, List.getElem?_append_left (by rw [itemsOf_len]; exact hs)]
    unfold itemsOf
    rw [List.getElem?_map, List.getElem?_range hs]; rfl
  | g' :: gs, r :: rows, j + 1, g, row, s, h1, h2, hl, hs => by
    show (itemsOf m g'.1 r ++ allItems m gs rows)[r.length + off rows j + s]? = _
    rw [List.getElem?_append_right (by rw [itemsOf_len]; omega), itemsOf_len, show r.length + off rows j + s - r.length = off rows j + s by omega]
    exact items_at m (by simpa using h1) (by simpa using h2) (by simpa using hl) hs
def gatherT {α : Type} : List (List Int) → List α → List (List α)
  | [], _ => []
  | row :: rows, l => l.take row.length :: gatherT rows (l.drop row.length)
theorem gather_len {α : Type} : ∀ (rows : List (List Int)) (l : List α), (gatherT rows l).length = rows.length
  | [], _ => rfl
  | row :: rows, l => by show (gatherT rows _).length + 1 = rows.length + 1; rw [gather_len rows]
theorem gather_at {α : Type} : ∀ {rows : List (List Int)} {l : List α} {j : Nat} {row : List Int}, rows[j]? = some row → (gatherT rows l)[j]? = some ((l.drop (off rows j)).take row.length)
  | [], l, j, row, h => by simp at h
  | r :: rows, l, 0, row, h => by
    have : r = row := by simpa using h
    subst this; rfl
  | r :: rows, l, j + 1, row, h => by
    show (gatherT rows (l.drop r.length))[j]? = some ((l.drop (r.length + off rows j)).take row.length)
    rw [gather_at (rows := rows) (by simpa using h), List.drop_drop]
/-- sums over what was gathered -/
theorem gather_sum {α : Type} (f : α → Int) : ∀ {rows : List (List Int)} {l : List α}, l.length = off rows rows.length → ((gatherT rows l).map fun T => (T.map f).sum).sum = (l.map f).sum
  | [], l, h => by
    have : l = [] := List.eq_nil_of_length_eq_zero h
    rw [this]; rfl
  | r :: rows, l, h => by
    have h : l.length = r.length + off rows rows.length := h
    show ((l.take r.length).map f).sum + ((gatherT rows (l.drop r.length)).map fun T => (T.map f).sum).sum = _
    rw [gather_sum f (by rw [List.length_drop]; omega), ← List.sum_append, ← List.map_append, List.take_append_drop]
/-! the certificate -/
def valsR (P : Tr.Row) : List Int := P.map (·.2)
def certTabs (rows : List (List Int)) (t : Tr.T) : List (List (List Int)) := gatherT rows (t.plan.map valsR)
def certPr (t : Tr.T) : List Int := (Tr.prices t 2).dropLast
def start (cs : List Int) (gs : List Gp) : Tr.T := ⟨cs ++ [(gs.map (·.2)).sum + 1], [], []⟩
theorem vals_at {P : Tr.Row} (nd : (Tr.ks P).Nodup) {e : Nat} (he : e < P.length) : (valsR P).getD e 0 = Tr.num P ((Tr.ks P).getD e 0) := by
  have e1 : (valsR P)[e]? = some P[e].2 := by unfold valsR; rw [List.getElem?_map, List.getElem?_eq_getElem he]; rfl
  have e2 : (Tr.ks P)[e]? = some P[e].1 := by show (P.map _)[e]? = _; rw [List.getElem?_map, List.getElem?_eq_getElem he]; rfl
  rw [List.getD_eq_getElem?_getD, e1, List.getD_eq_getElem?_getD, e2]
  exact (num_gv (Tr.gv_of_mem nd (List.getElem_mem he))).symm
structure MIn (cs : List Int) (gs : List Gp) (rows : List (List Int)) : Prop where
  cb : ∀ c ∈ cs, 1 ≤ c
  gp : ∀ g ∈ gs, (∀ p ∈ g.1, 0 ≤ p ∧ p < (cs.length : Int)) ∧ g.1.Nodup ∧ 0 ≤ g.2
  rl : rows.length = gs.length
  sh : ∀ (i : Nat) (g : Gp) (row : List Int), gs[i]? = some g → rows[i]? = some row → row.length = g.1.length + 1 ∧ row.sum = g.2 ∧ ∀ x ∈ row, 0 ≤ x
section
variable {cs : List Int} {gs : List Gp} {rows : List (List Int)} {t : Tr.T}
theorem items_sum (m : Nat) : ∀ {gs : List Gp} {rows : List (List Int)}, rows.length = gs.length → (∀ (i : Nat) (g : Gp) (row : List Int), gs[i]? = some g → rows[i]? = some row → row.sum = g.2) → ((allItems m gs rows).map (·.2)).sum = (gs.map (·.2)).sum
  | [], rows, h, _ => by
    have : rows = [] := List.eq_nil_of_length_eq_zero h
    rw [this]; rfl
  | g :: gs, [], h, _ => by simp at h
  | g :: gs, row :: rows, h, hs => by
    show ((itemsOf m g.1 row ++ allItems m gs rows).map (·.2)).sum = g.2 + (gs.map (·.2)).sum
    rw [List.map_append, List.sum_append, items_sum m (by simpa using h) fun i g' r h1 h2 => hs (i + 1) g' r (by simpa using h1) (by simpa using h2)]
    have : ((itemsOf m g.1 row).map (·.2)).sum = g.2 := by
      rw [← hs 0 g row rfl rfl, sum_at0 row]
      unfold itemsOf sumr
      rw [List.map_map]; rfl
    rw [this]
theorem rm_start (c : Nat) (h : c < cs.length) : Tr.rm (start cs gs) (c : Int) = cs.getD c 0 := by
  show (cs ++ [_]).getD (c : Int).toNat 0 = _
  rw [Int.toNat_natCast, List.getD_eq_getElem?_getD, List.getElem?_append_left h, List.getD_eq_getElem?_getD]
theorem rm_last : Tr.rm (start cs gs) (cs.length : Int) = (gs.map (·.2)).sum + 1 := by
  show (cs ++ [_]).getD (cs.length : Int).toNat 0 = _
  rw [Int.toNat_natCast, List.getD_eq_getElem?_getD, List.getElem?_append_right (Nat.le_refl _), Nat.sub_self]; rfl
/-- what stands at group j, option s -/
structure Cell (cs : List Int) (gs : List Gp) (rows : List (List Int)) (t : Tr.T) (j s : Nat) (P : Tr.Row) : Prop where
  pl : t.plan[off rows j + s]? = some P
  co : t.costs[off rows j + s]? = some (voteRow cs.length (gs.getD j ([], 0)).1 s)
  ks : Tr.ks P = colsOf cs.length (gs.getD j ([], 0)).1
  nd : (colsOf cs.length (gs.getD j ([], 0)).1).Nodup
  rs : Tr.rs P = (rows.getD j []).getD s 0
  tb : ((certTabs rows t).getD j []).getD s [] = valsR P
theorem cell (h : MIn cs gs rows) (R : RunOk (start cs gs) (allItems cs.length gs rows) t) {j s : Nat} (hj : j < gs.length) (hs : s < (gs.getD j ([], 0)).1.length + 1) : ∃ P, Cell cs gs rows t j s P := by
  have eg : gs[j]? = some gs[j] := List.getElem?_eq_getElem hj
  have hjr : j < rows.length := by rw [h.rl]; exact hj
  have er : rows[j]? = some rows[j] := List.getElem?_eq_getElem hjr
  have eg' : gs.getD j ([], 0) = gs[j] := by rw [List.getD_eq_getElem?_getD, eg]; rfl
  have er' : rows.getD j [] = rows[j] := by rw [List.getD_eq_getElem?_getD, er]; rfl
  rw [eg'] at hs
  obtain ⟨sh1, sh2, sh3⟩ := h.sh j _ _ eg er
  obtain ⟨g1, g2, g3⟩ := h.gp _ (List.getElem_mem hj)
  have hsr : s < rows[j].length := by omega
  have it := items_at cs.length eg er h.rl hsr
  have hil := (List.getElem?_eq_some_iff.mp it).1
  have hip : off rows j + s < t.plan.length := by rw [R.pl]; exact hil
  have eP : t.plan[off rows j + s]? = some t.plan[off rows j + s] := List.getElem?_eq_getElem hip
  have eC : t.costs[off rows j + s]? = some (voteRow cs.length gs[j].1 s) := by rw [R.cs, List.getElem?_map, it]; rfl
  refine ⟨_, eP, by rw [eg']; exact eC, ?_, by rw [eg']; exact cols_nd g2 g1, ?_, ?_⟩
  · rw [eg', R.wf.key _ _ _ eP eC, ks_voteRow]
  · have := R.row (off rows j + s)
    rw [eP, it] at this
    rw [er']
    exact Option.some.inj this
  · unfold certTabs
    rw [List.getD_eq_getElem?_getD, List.getD_eq_getElem?_getD, gather_at er]
    simp only [Option.getD_some]
    rw [List.getElem?_take, if_pos hsr, List.getElem?_drop, List.getElem?_map, eP]
    rfl
theorem Cell.len {j s : Nat} {P : Tr.Row} (c : Cell cs gs rows t j s P) : P.length = (gs.getD j ([], 0)).1.length + 1 := by
  have := congrArg List.length c.ks
  rw [colsOf_len] at this
  simpa [Tr.ks] using this
theorem Cell.val {j s : Nat} {P : Tr.Row} (c : Cell cs gs rows t j s P) {e : Nat} (he : e < (gs.getD j ([], 0)).1.length + 1) : (valsR P).getD e 0 = Tr.num P ((colsOf cs.length (gs.getD j ([], 0)).1).getD e 0) := by
  rw [vals_at (by rw [c.ks]; exact c.nd) (by rw [c.len]; exact he), c.ks]
theorem cert_tb (h : MIn cs gs rows) (R : RunOk (start cs gs) (allItems cs.length gs rows) t) : ChTb gs rows (certTabs rows t) := by
  refine ⟨h.rl, by unfold certTabs; rw [gather_len]; exact h.rl, fun j hj => ?_⟩
  have eg : gs[j]? = some gs[j] := List.getElem?_eq_getElem hj
  have hjr : j < rows.length := by rw [h.rl]; exact hj
  have er : rows[j]? = some rows[j] := List.getElem?_eq_getElem hjr
  have eg' : gs.getD j ([], 0) = gs[j] := by rw [List.getD_eq_getElem?_getD, eg]; rfl
  have er' : rows.getD j [] = rows[j] := by rw [List.getD_eq_getElem?_getD, er]; rfl
  obtain ⟨sh1, sh2, sh3⟩ := h.sh j _ _ eg er
  have hlen : (certTabs rows t).getD j [] = ((t.plan.map valsR).drop (off rows j)).take rows[j].length := by
    unfold certTabs; rw [List.getD_eq_getElem?_getD, gather_at er]; rfl
  have tot : t.plan.length = off rows rows.length := by rw [R.pl, items_len _ h.rl]
  have ol := off_le er
  refine ⟨by rw [er', eg', sh1], by rw [hlen, List.length_take, List.length_drop, List.length_map, tot, eg', ← sh1]; omega, fun s hs => ?_, fun s e hs he => ?_, fun s hs => ?_⟩
  · obtain ⟨P, c⟩ := cell h R hj hs
    rw [c.tb]; unfold valsR; rw [List.length_map, c.len]
  · obtain ⟨P, c⟩ := cell h R hj hs
    rw [c.tb, c.val he]
    exact R.wf.pn P (List.mem_of_getElem? c.pl) _
  · obtain ⟨P, c⟩ := cell h R hj hs
    rw [c.tb]; exact c.rs
def indC (m c : Nat) : List Int := (List.range m).map fun i => if i = c then 1 else 0
theorem ind_at {m c e : Nat} (he : e < m) : (indC m c).getD e 0 = if e = c then 1 else 0 := by
  unfold indC; rw [List.getD_eq_getElem?_getD, List.getElem?_map, List.getElem?_range he]; rfl
theorem ind_dot {m c : Nat} (hc : c < m) {v : List Int} (hv : v.length = m) : dotR v (indC m c) = v.getD c 0 := by
  unfold dotR
  rw [sumr_one (a := c) (by omega) fun i hi hn => by rw [ind_at (by omega), if_neg hn, Int.mul_zero], ind_at hc, if_pos rfl, Int.mul_one]
theorem costs_at {q ps : List Int} {e : Nat} (he : e < ps.length) : (costsOf q ps).getD e 0 = q.getD (ps.getD e 0).toNat 0 := by
  unfold costsOf
  rw [List.getD_eq_getElem?_getD, List.getElem?_append_left (by rw [List.length_map]; exact he), List.getElem?_map, List.getElem?_eq_getElem he, List.getD_eq_getElem?_getD (l := ps), List.getElem?_eq_getElem he]
  rfl
theorem costs_last (q ps : List Int) : (costsOf q ps).getD ps.length 0 = 0 := by
  unfold costsOf
  rw [List.getD_eq_getElem?_getD, List.getElem?_append_right (by rw [List.length_map]; exact Nat.le_refl _), List.length_map, Nat.sub_self]; rfl
theorem cols_at {m : Nat} {ps : List Int} {e : Nat} (he : e < ps.length) : (colsOf m ps).getD e 0 = ps.getD e 0 := by
  unfold colsOf; rw [List.getD_eq_getElem?_getD, List.getElem?_append_left he, List.getD_eq_getElem?_getD]
theorem cols_last (m : Nat) (ps : List Int) : (colsOf m ps).getD ps.length 0 = (m : Int) := by
  unfold colsOf; rw [List.getD_eq_getElem?_getD, List.getElem?_append_right (Nat.le_refl _), Nat.sub_self]; rfl
theorem Cell.dot {j s : Nat} {P : Tr.Row} (c : Cell cs gs rows t j s P) (hp : ∀ p ∈ (gs.getD j ([], 0)).1, 0 ≤ p ∧ p < (cs.length : Int)) {k : Nat} (hk : k < cs.length) : dotR (valsR P) (costsOf (indC cs.length k) (gs.getD j ([], 0)).1) = Tr.num P (k : Int) := by
  have hl : (valsR P).length = (gs.getD j ([], 0)).1.length + 1 := by unfold valsR; rw [List.length_map, c.len]
  unfold dotR
  rw [hl]
  have cv := @Cell.val cs gs rows t j s P c
  have cn := c.nd
  have ck := c.ks
  generalize (gs.getD j ([], 0)).1 = ps at hp hl cv cn ck
  have e1 : ∀ e, e < ps.length + 1 → (valsR P).getD e 0 * (costsOf (indC cs.length k) ps).getD e 0 = if (colsOf cs.length ps).getD e 0 = (k : Int) then Tr.num P (k : Int) else 0 := fun e he => by
    rw [cv he]
    by_cases h1 : e < ps.length
    · have hin : ps.getD e 0 ∈ ps := by rw [List.getD_eq_getElem?_getD, List.getElem?_eq_getElem h1]; exact List.getElem_mem _
      have := hp _ hin
      rw [costs_at h1, cols_at h1, ind_at (by omega)]
      by_cases z : ps.getD e 0 = (k : Int)
      · rw [if_pos z, if_pos (by omega), z, Int.mul_one]
      · rw [if_neg z, if_neg (by omega), Int.mul_zero]
    · have : e = ps.length := by omega
      subst this
      rw [costs_last, cols_last, Int.mul_zero, if_neg (by omega)]
  rw [sumr_congr e1]
  by_cases hin : (k : Int) ∈ colsOf cs.length ps
  · obtain ⟨a, ha⟩ := List.getElem?_of_mem hin
    have hal := (List.getElem?_eq_some_iff.mp ha).1
    rw [colsOf_len] at hal
    have eA : (colsOf cs.length ps).getD a 0 = (k : Int) := by rw [List.getD_eq_getElem?_getD, ha]; rfl
    rw [sumr_one hal fun i hi hn => if_neg fun z => hn ?_, if_pos eA]
    have hi' : (colsOf cs.length ps)[i]? = some (k : Int) := by
      rw [List.getElem?_eq_getElem (by rw [colsOf_len]; exact hi)]
      rw [List.getD_eq_getElem?_getD, List.getElem?_eq_getElem (by rw [colsOf_len]; exact hi)] at z
      exact congrArg some z
    exact (List.getElem?_inj (by rw [colsOf_len]; exact hi) cn).mp (hi'.trans ha.symm)
  · have z : Tr.num P (k : Int) = 0 := by
      by_cases y : Tr.num P (k : Int) = 0
      · exact y
      · exact absurd (by rw [← ck]; exact Tr.num_ks y) hin
    rw [z]
    refine (sumr_congr fun e he => ?_).trans (sumr_const _)
    split <;> rfl
/-- the posts' loads are what the plan holds in their columns -/
theorem cert_loads (h : MIn cs gs rows) (R : RunOk (start cs gs) (allItems cs.length gs rows) t) {k : Nat} (hk : k < cs.length) : (loadsFrom (zeros cs.length) gs ((certTabs rows t).map colSum)).getD k 0 = Tr.colS t.plan (k : Int) := by
  have tb := cert_tb h R
  have hp : ∀ g ∈ gs, ∀ p ∈ g.1, 0 ≤ p ∧ p < (cs.length : Int) := fun g hg => (h.gp g hg).1
  have lz : (zeros cs.length).length = cs.length := by simp [zeros]
  have e1 := loads_dot tb hp (indC cs.length k)
  rw [ind_dot hk (by rw [loadsFrom_len, lz])] at e1
  rw [e1]
  have e2 : ∀ j, j < gs.length → dotR (colSum ((certTabs rows t).getD j [])) (costsOf (indC cs.length k) (gs.getD j ([], 0)).1) = (((gatherT rows t.plan).getD j []).map fun P => Tr.num P (k : Int)).sum := fun j hj => by
    have tj := tb.tb j hj
    have hpj : ∀ p ∈ (gs.getD j ([], 0)).1, 0 ≤ p ∧ p < (cs.length : Int) := by
      rw [List.getD_eq_getElem?_getD, List.getElem?_eq_getElem hj]
      exact hp _ (List.getElem_mem hj)
    rw [colS_dot tj, sum_at _ [] ((gatherT rows t.plan).getD j [])]
    have hjr : j < rows.length := by rw [h.rl]; exact hj
    have er : rows[j]? = some rows[j] := List.getElem?_eq_getElem hjr
    have eg : gs[j]? = some gs[j] := List.getElem?_eq_getElem hj
    have eg' : gs.getD j ([], 0) = gs[j] := by rw [List.getD_eq_getElem?_getD, eg]; rfl
    obtain ⟨sh1, _⟩ := h.sh j _ _ eg er
    have hG : (gatherT rows t.plan).getD j [] = (t.plan.drop (off rows j)).take rows[j].length := by rw [List.getD_eq_getElem?_getD, gather_at er]; rfl
    have tot : t.plan.length = off rows rows.length := by rw [R.pl, items_len _ h.rl]
    have ol := off_le er
    have hGl : ((gatherT rows t.plan).getD j []).length = (gs.getD j ([], 0)).1.length + 1 := by rw [hG, List.length_take, List.length_drop, tot, eg', ← sh1]; omega
    rw [hGl]
    refine sumr_congr fun s hs => ?_
    obtain ⟨P, c⟩ := cell h R hj hs
    rw [c.tb, c.dot hpj hk]
    have : ((gatherT rows t.plan).getD j []).getD s [] = P := by
      rw [hG, List.getD_eq_getElem?_getD, List.getElem?_take, if_pos (by rw [eg', ← sh1] at hs; exact hs), List.getElem?_drop, c.pl]; rfl
    rw [this]
  rw [sumr_congr e2]
  have e3 := gather_sum (fun P : Tr.Row => Tr.num P (k : Int)) (rows := rows) (l := t.plan) (by rw [R.pl, items_len _ h.rl])
  rw [sum_at _ [] (gatherT rows t.plan), gather_len, h.rl] at e3
  exact e3
theorem cert_ok (h : MIn cs gs rows) (R : RunOk (start cs gs) (allItems cs.length gs rows) t) : ChOk cs gs rows (certTabs rows t) := by
  refine ⟨cert_tb h R, fun c hc => ?_⟩
  rw [cert_loads h R hc]
  have h1 := R.col (c : Int) (by omega)
  rw [rm_start c hc] at h1
  have h2 := R.wf.rm0 (c : Int)
  omega
theorem vote_le (a b : Int) : -1 ≤ voteI a b ∧ voteI a b ≤ 1 := by unfold voteI; split <;> (try split) <;> omega
/-- the prices -/
theorem cert_pr (h : MIn cs gs rows) (R : RunOk (start cs gs) (allItems cs.length gs rows) t) : (certPr t).length = cs.length ∧ (∀ x ∈ certPr t, 0 ≤ x ∧ x ≤ 2) ∧ (votesOf (certTabs rows t)).sum = limI cs gs rows (certPr t) gs.length := by
  have rlen : t.room.length = cs.length + 1 := by rw [R.rl]; show (cs ++ [_]).length = _; rw [List.length_append]; rfl
  have hp : ∀ g ∈ gs, ∀ p ∈ g.1, 0 ≤ p ∧ p < (cs.length : Int) := fun g hg => (h.gp g hg).1
  obtain ⟨p, hpot⟩ := R.pot
  have W := R.wf
  -- no post: room is left
  have hmr : 0 < Tr.rm t (cs.length : Int) := by
    have h1 := R.col (cs.length : Int) (by omega)
    rw [rm_last] at h1
    have h2 := col_le W (cs.length : Int)
    have h3 : (t.plan.map Tr.rs).sum = ((allItems cs.length gs rows).map (·.2)).sum := sum_eq_of_at fun i => by rw [List.getElem?_map, List.getElem?_map]; exact R.row i
    rw [h3, items_sum cs.length h.rl fun i g row a b => (h.sh i g row a b).2.1] at h2
    omega
  -- every arc by votes
  have arcs : ∀ {j s e e' : Nat} {P : Tr.Row}, Cell cs gs rows t j s P → e < (gs.getD j ([], 0)).1.length + 1 → e' < (gs.getD j ([], 0)).1.length + 1 → e' ≠ e → (valsR P).getD e 0 ≠ 0 →
      Tr.Arc t (off rows j + s) ((colsOf cs.length (gs.getD j ([], 0)).1).getD e 0) ((colsOf cs.length (gs.getD j ([], 0)).1).getD e' 0) (-voteI (s : Int) (e' : Int) - -voteI (s : Int) (e : Int)) := fun {j s e e' P} c he he' hne hv => by
    refine ⟨P, _, c.pl, c.co, by rw [← c.val he]; exact hv, ?_, fun z => hne ?_, ?_⟩
    · rw [ks_voteRow]
      exact getD_mem (by rw [colsOf_len]; exact he')
    · have a1 : (colsOf cs.length (gs.getD j ([], 0)).1)[e']? = (colsOf cs.length (gs.getD j ([], 0)).1)[e]? :=
        (getD_some (by rw [colsOf_len]; exact he')).trans ((congrArg some z).trans (getD_some (by rw [colsOf_len]; exact he)).symm)
      exact (List.getElem?_inj (by rw [colsOf_len]; exact he') c.nd).mp a1
    · rw [num_gv (gv_voteRow c.nd s he'), num_gv (gv_voteRow c.nd s he)]
  -- some unit stands in a full column
  have full : ∀ k : Nat, k < cs.length → ¬ 0 < Tr.rm t (k : Int) → p (k : Int) ≤ 2 := fun k hk hn => by
    have h1 := R.col (k : Int) (by omega)
    rw [rm_start k hk] at h1
    have h2 : 1 ≤ cs.getD k 0 := by rw [List.getD_eq_getElem?_getD, List.getElem?_eq_getElem hk]; exact h.cb _ (List.getElem_mem _)
    have h3 := W.rm0 (k : Int)
    have h4 : 0 < Tr.colS t.plan (k : Int) := by omega
    rw [← cert_loads h R hk] at h4
    -- by the tables
    have ne : ∃ (j s e : Nat) (P : Tr.Row), j < gs.length ∧ e < (gs.getD j ([], 0)).1.length ∧ Cell cs gs rows t j s P ∧ (valsR P).getD e 0 ≠ 0 ∧ (gs.getD j ([], 0)).1.getD e 0 = (k : Int) := by
      by_cases all : ∃ (i : Nat) (P : Tr.Row), t.plan[i]? = some P ∧ Tr.num P (k : Int) ≠ 0
      · obtain ⟨i, P, eP, hP⟩ := all
        have hil : i < off rows rows.length := by rw [← items_len cs.length h.rl, ← R.pl]; exact (List.getElem?_eq_some_iff.mp eP).1
        have loc : ∀ (rows : List (List Int)) (i : Nat), i < off rows rows.length → ∃ j s, j < rows.length ∧ s < (rows.getD j []).length ∧ i = off rows j + s := fun rows => by
          induction rows with
          | nil => intro i hi; exact absurd hi (Nat.not_lt_zero _)
          | cons r rows ih =>
            intro i hi
            by_cases z : i < r.length
            · exact ⟨0, i, by simp, z, (Nat.zero_add i).symm⟩
            · have hi : i < r.length + off rows rows.length := hi
              obtain ⟨j, s, a, b, c⟩ := ih (i - r.length) (by omega)
              exact ⟨j + 1, s, by rw [List.length_cons]; omega, b, by show i = r.length + off rows j + s; omega⟩
        obtain ⟨j, s, hj, hs, ei⟩ := loc rows i hil
        have hjg : j < gs.length := by rw [← h.rl]; exact hj
        have eg : gs[j]? = some gs[j] := List.getElem?_eq_getElem hjg
        have er : rows[j]? = some rows[j] := List.getElem?_eq_getElem hj
        have eg' : gs.getD j ([], 0) = gs[j] := by rw [List.getD_eq_getElem?_getD, eg]; rfl
        have er' : rows.getD j [] = rows[j] := by rw [List.getD_eq_getElem?_getD, er]; rfl
        obtain ⟨sh1, _⟩ := h.sh j _ _ eg er
        obtain ⟨P', c⟩ := cell h R hjg (s := s) (by rw [eg', ← sh1, ← er']; exact hs)
        have : P' = P := by have := c.pl; rw [← ei, eP] at this; exact (Option.some.inj this).symm
        subst this
        have hin := Tr.num_ks hP
        rw [c.ks] at hin
        obtain ⟨e, he⟩ := List.getElem?_of_mem hin
        have hel := (List.getElem?_eq_some_iff.mp he).1
        rw [colsOf_len] at hel
        have eA : (colsOf cs.length (gs.getD j ([], 0)).1).getD e 0 = (k : Int) := by rw [List.getD_eq_getElem?_getD, he]; rfl
        have hlt : e < (gs.getD j ([], 0)).1.length := by
          by_cases z : e < (gs.getD j ([], 0)).1.length
          · exact z
          · have : e = (gs.getD j ([], 0)).1.length := by omega
            rw [this, cols_last] at eA
            omega
        refine ⟨j, s, e, P', hjg, hlt, c, ?_, ?_⟩
        · rw [c.val hel, eA]; exact hP
        · rw [← cols_at hlt]; exact eA
      · exfalso
        rw [cert_loads h R hk] at h4
        have : Tr.colS t.plan (k : Int) = 0 := by
          unfold Tr.colS
          have hz : ∀ P ∈ t.plan, Tr.num P (k : Int) = 0 := fun P hP => by
            obtain ⟨i, e⟩ := List.getElem?_of_mem hP
            by_cases z : Tr.num P (k : Int) = 0
            · exact z
            · exact absurd ⟨i, P, e, z⟩ all
          generalize t.plan = l at hz
          induction l with
          | nil => rfl
          | cons P l ih => rw [List.map_cons, List.sum_cons, hz P List.mem_cons_self, ih fun P' h' => hz P' (List.mem_cons_of_mem _ h')]; rfl
        omega
    obtain ⟨j, s, e, P, hj, he, c, hv, hk'⟩ := ne
    have ar := arcs c (by omega : e < _ + 1) (Nat.lt_succ_self (gs.getD j ([], 0)).1.length) (by omega) hv
    have ht := hpot.tight _ _ _ _ ar
    rw [cols_at he, hk', cols_last, hpot.z _ hmr] at ht
    have := vote_le (s : Int) (((gs.getD j ([], 0)).1.length : Nat) : Int)
    have := vote_le (s : Int) (e : Int)
    omega
  have hh : ∀ c : Int, 0 ≤ c ∧ c < t.room.length → p c ≤ 2 := fun c hc => by
    by_cases z : 0 < Tr.rm t c
    · rw [hpot.z c z]; decide
    · obtain ⟨k, rfl⟩ : ∃ k : Nat, c = (k : Int) := ⟨c.toNat, by omega⟩
      by_cases e : k = cs.length
      · subst e; exact absurd hmr z
      · exact full k (by omega) z
  obtain ⟨pl, pa⟩ := Tr.prices_ok W hpot (hi := 2) (by decide) hh
  have ql : (certPr t).length = cs.length := by unfold certPr; rw [List.length_dropLast, pl, rlen]; rfl
  have qat : ∀ k, k < cs.length → (certPr t).getD k 0 = Tr.qa (Tr.prices t 2) (k : Int) := fun k hk => by
    unfold certPr Tr.qa
    rw [List.getD_eq_getElem?_getD, List.getElem?_dropLast, if_pos (by rw [pl, rlen]; omega), List.getD_eq_getElem?_getD]
    rfl
  have qm : Tr.qa (Tr.prices t 2) (cs.length : Int) = 0 := (pa _ ⟨by omega, by rw [rlen]; omega⟩).2.2.1 hmr
  refine ⟨ql, fun x hx => ?_, ?_⟩
  · obtain ⟨k, e⟩ := List.getElem?_of_mem hx
    have hk := (List.getElem?_eq_some_iff.mp e).1
    rw [ql] at hk
    have := qat k hk
    rw [List.getD_eq_getElem?_getD, e] at this
    have this : x = _ := this
    obtain ⟨a1, a2, _⟩ := pa (k : Int) ⟨by omega, by rw [rlen]; omega⟩
    rw [this]; exact ⟨a1, a2⟩
  · refine strongDual (cert_ok h R) hp ql (fun j s e hj hs he hv => ?_) fun c hc => ?_
    · obtain ⟨P, c⟩ := cell h R hj hs
      rw [c.tb] at hv
      have colv : ∀ e, e < (gs.getD j ([], 0)).1.length + 1 → (costsOf (certPr t) (gs.getD j ([], 0)).1).getD e 0 = Tr.qa (Tr.prices t 2) ((colsOf cs.length (gs.getD j ([], 0)).1).getD e 0) := fun e he => by
        by_cases z : e < (gs.getD j ([], 0)).1.length
        · have hin : (gs.getD j ([], 0)).1.getD e 0 ∈ (gs.getD j ([], 0)).1 := getD_mem z
          have hpj : ∀ p ∈ (gs.getD j ([], 0)).1, 0 ≤ p ∧ p < (cs.length : Int) := by
            rw [List.getD_eq_getElem?_getD, List.getElem?_eq_getElem hj]
            exact hp _ (List.getElem_mem hj)
          have := hpj _ hin
          rw [costs_at z, cols_at z, qat _ (by omega)]
          congr 1
          omega
        · have : e = (gs.getD j ([], 0)).1.length := by omega
          rw [this, costs_last, cols_last, qm]
      refine mx_of ?_ fun y hy => ?_
      · exact getD_mem (by rw [gains_len, costs_len]; exact he)
      · obtain ⟨e', he'⟩ := List.getElem?_of_mem hy
        have hel := (List.getElem?_eq_some_iff.mp he').1
        rw [gains_len, costs_len] at hel
        have ey : (gains (s : Int) (costsOf (certPr t) (gs.getD j ([], 0)).1)).getD e' 0 = y := by rw [List.getD_eq_getElem?_getD, he']; rfl
        rw [← ey, gains_at (by rw [costs_len]; exact hel), gains_at (by rw [costs_len]; exact he), colv e' hel, colv e he]
        by_cases z : e' = e
        · rw [z]; exact Int.le_refl _
        · have ar := arcs c he hel z hv
          have hin := (W.arc ar).1
          have := (pa _ hin).2.2.2 _ _ _ ar
          omega
    · rw [cert_loads h R hc, qat c hc]
      have h1 := R.col (c : Int) (by omega)
      rw [rm_start c hc] at h1
      by_cases z : 0 < Tr.rm t (c : Int)
      · rw [(pa (c : Int) ⟨by omega, by rw [rlen]; omega⟩).2.2.1 z, Int.mul_zero, Int.mul_zero]
      · have := W.rm0 (c : Int)
        rw [show Tr.colS t.plan (c : Int) = cs.getD c 0 by omega]
end
end Pv

namespace Pv
open PySem PySem.Spec PyProof.Rows L2
abbrev sOC : Stmt := topS 21
theorem scOC : FnScope ["instance", "group"] ["instance", "group"] (defScope sOC) := ⟨rfl, rfl, rfl, by decide +kernel, rfl, by decide +kernel, by decide +kernel⟩
abbrev sPT : Stmt := topS 20
theorem scPT : FnScope ["instance", "capacities", "groups", "posts", "count"] ["instance"] (defScope sPT) := ⟨rfl, rfl, rfl, by decide +kernel, rfl, by decide +kernel, by decide +kernel⟩
abbrev sVT : Stmt := topS 27
theorem scVT : FnScope ["instance", "assignment", "transport", "group", "share", "columns", "start", "number", "end", "column"] ["instance", "assignment"] (defScope sVT) := ⟨rfl, rfl, rfl, by decide +kernel, rfl, by decide +kernel, by decide +kernel⟩

theorem items_snoc (m : Nat) : ∀ {gs : List Gp} {rows : List (List Int)} {j : Nat} {g : Gp} {row : List Int}, gs[j]? = some g → rows[j]? = some row → allItems m (gs.take (j + 1)) (rows.take (j + 1)) = allItems m (gs.take j) (rows.take j) ++ itemsOf m g.1 row
  | [], rows, j, g, row, h, _ => by simp at h
  | g' :: gs, [], j, g, row, _, h => by simp at h
  | g' :: gs, r :: rows, 0, g, row, h1, h2 => by
    have h1 : g' = g := by simpa using h1
    have h2 : r = row := by simpa using h2
    subst h1 h2
    show itemsOf m g'.1 r ++ allItems m (gs.take 0) (rows.take 0) = [] ++ itemsOf m g'.1 r
    simp [allItems]
  | g' :: gs, r :: rows, j + 1, g, row, h1, h2 => by
    show itemsOf m g'.1 r ++ allItems m (gs.take (j + 1)) (rows.take (j + 1)) = itemsOf m g'.1 r ++ allItems m (gs.take j) (rows.take j) ++ itemsOf m g.1 row
    rw [items_snoc m (by simpa using h1) (by simpa using h2), List.append_assoc]
theorem items_take_le (m : Nat) : ∀ {gs : List Gp} {rows : List (List Int)} (j : Nat), (∀ g ∈ gs, 0 ≤ g.2) → (∀ (i : Nat) (g : Gp) (row : List Int), gs[i]? = some g → rows[i]? = some row → row.sum = g.2) → ((allItems m (gs.take j) (rows.take j)).map (·.2)).sum ≤ ((gs.take j).map (·.2)).sum
  | [], rows, j, _, _ => by simp [allItems]
  | g :: gs, [], j, h0, _ => by
    cases j with
    | zero => simp [allItems]
    | succ j =>
      show (0 : Int) ≤ g.2 + ((gs.take j).map (·.2)).sum
      have h1 := h0 g List.mem_cons_self
      have h2 : ∀ l : List Gp, (∀ g ∈ l, 0 ≤ g.2) → 0 ≤ (l.map (·.2)).sum := fun l => by
        induction l with
        | nil => intro _; exact Int.le_refl _
        | cons a l ih => intro h; have := ih fun g hg => h g (List.mem_cons_of_mem _ hg); have := h a List.mem_cons_self; show 0 ≤ a.2 + (l.map (·.2)).sum; omega
      have := h2 (gs.take j) fun g hg => h0 g (List.mem_cons_of_mem _ (List.mem_of_mem_take hg))
      omega
  | g :: gs, row :: rows, j, h0, hs => by
    cases j with
    | zero => simp [allItems]
    | succ j =>
      have ih := items_take_le m (gs := gs) (rows := rows) j (fun g hg => h0 g (List.mem_cons_of_mem _ hg)) fun i g' r h1 h2 => hs (i + 1) g' r (by simpa using h1) (by simpa using h2)
      show ((itemsOf m g.1 row ++ allItems m (gs.take j) (rows.take j)).map (·.2)).sum ≤ g.2 + ((gs.take j).map (·.2)).sum
      rw [List.map_append, List.sum_append]
      have : ((itemsOf m g.1 row).map (·.2)).sum = g.2 := by
        rw [← hs 0 g row rfl rfl, sum_at0 row]
        unfold itemsOf sumr
        rw [List.map_map]; rfl
      omega
theorem sum_take_le : ∀ {l : List Int}, (∀ x ∈ l, 0 ≤ x) → ∀ j, (l.take j).sum ≤ l.sum
  | [], _, j => by simp
  | a :: l, h, 0 => by
    have : ∀ l : List Int, (∀ x ∈ l, 0 ≤ x) → 0 ≤ l.sum := fun l => by
      induction l with
      | nil => intro _; exact Int.le_refl _
      | cons a l ih => intro h; have := ih fun g hg => h g (List.mem_cons_of_mem _ hg); have := h a List.mem_cons_self; rw [List.sum_cons]; omega
    exact this _ h
  | a :: l, h, j + 1 => by
    have := sum_take_le (l := l) (fun x hx => h x (List.mem_cons_of_mem _ hx)) j
    rw [List.take_succ_cons, List.sum_cons, List.sum_cons]; omega
theorem voteRow_take {m : Nat} {ps : List Int} {s e : Nat} (nd : (colsOf m ps).Nodup) (he : e < ps.length + 1) : Tr.pt ((voteRow m ps s).take e) ((colsOf m ps).getD e 0) (-voteI (s : Int) (e : Int)) = (voteRow m ps s).take (e + 1) ∧ (Tr.ks ((voteRow m ps s).take e)).Nodup := by
  have hk : Tr.ks ((voteRow m ps s).take e) = (colsOf m ps).take e := by rw [show Tr.ks ((voteRow m ps s).take e) = (Tr.ks (voteRow m ps s)).take e from List.map_take, ks_voteRow]
  have nd2 : (Tr.ks ((voteRow m ps s).take e)).Nodup := by rw [hk]; exact nd.sublist (List.take_sublist _ _)
  refine ⟨?_, nd2⟩
  have hn : ¬ (colsOf m ps).getD e 0 ∈ Tr.ks ((voteRow m ps s).take e) := fun hin => by
    rw [hk] at hin
    obtain ⟨i, hi⟩ := List.getElem?_of_mem hin
    rw [List.getElem?_take] at hi
    split at hi
    · rename_i hlt
      have := (List.getElem?_inj (List.getElem?_eq_some_iff.mp hi).1 nd).mp (hi.trans (getD_some (by rw [colsOf_len]; exact he)).symm)
      omega
    · cases hi
  have ev : (voteRow m ps s)[e]? = some ((colsOf m ps).getD e 0, -voteI (s : Int) (e : Int)) := by unfold voteRow; rw [List.getElem?_map, List.getElem?_range he]; rfl
  rw [pt_new hn, take_snoc ev]
structure MSz (cs : List Int) (gs : List Gp) : Prop where
  c6 : cs.length ≤ 6
  g10 : gs.length ≤ 10
  ps6 : ∀ g ∈ gs, g.1.length ≤ 6
def spOC (K : PySem.W.Frag) : Sp := fun vs H Q _ => ∃ (i : Addr) (gi : Nat) (cs : List Int) (gs : List Gp) (g : Gp), vs = [.ref i, .int gi] ∧ Dp K H (.ref i) (dInst cs gs) ∧ gs[gi]? = some g ∧ cs.length ≤ 900 ∧ g.1.length ≤ 900 ∧ ∀ H' p, Same H H' → SqT K H' p ((colsOf cs.length g.1).map V.int) → Q (.ref p) H'
def spPT (K : PySem.W.Frag) (C : Addr) : Sp := fun vs H Q _ => ∃ (i : Addr) (cs : List Int) (gs : List Gp), vs = [.ref i] ∧ Dp K H (.ref i) (dInst cs gs) ∧ cs.length ≤ 900 ∧ gs.length ≤ 900 ∧ ∀ H' x r c p, Same H H' → H r = none → H c = none → H p = none → TrAt C H' x r c p [] [] (start cs gs) → Q (.ref x) H'
def spVT (K : PySem.W.Frag) (C : Addr) : Sp := fun vs H Q _ => ∃ (i a : Addr) (cs : List Int) (gs : List Gp) (rows : List (List Int)), vs = [.ref i, .ref a] ∧ Dp K H (.ref i) (dInst cs gs) ∧ Dp K H (.ref a) (dAsg rows) ∧ MIn cs gs rows ∧ MSz cs gs ∧
  ∀ H' x r c p cd pd t, Same H H' → TrAt C H' x r c p cd pd t → RunOk (start cs gs) (allItems cs.length gs rows) t → Runs (start cs gs) (allItems cs.length gs rows) t → Q (.ref x) H'
section
variable {P : Program} {w : World} {K : PySem.W.Frag} {mg : Str → Option Value} {base : Heap}
set_option maxHeartbeats 4000000 in
theorem ok_OC {f : Addr} {fd : FuncData} (F : Fun K "option_columns" "option_columns" sOC f fd)
    (m_len : mg "len" = none) :
    FnOk P w K mg base CX0 1 f fd ["instance", "group"] (spOC K) := by
  refine F.ok scOC (fun vs H Q E h => ?_) (fun cdv A outer s H vs Q E hr h => ?_)
  · obtain ⟨i, gi, cs, gs, g, rfl, _⟩ := h; rfl
  · obtain ⟨i, gi, cs, gs, g, rfl, hI, hg, hc, hl, q⟩ := h
    refine ⟨_, pss_one (ps_ret (pe_op op_catA (pe_ix ix_tup (pe_ix ix_tup (pe_ix ix_tup (pv 0) (pe_int) (fun _ _ => rfl)) (pv 1) (fun _ _ => rfl)) (pe_int) (fun _ _ => rfl)) (pe_tup (pa_cons (pe_callB call_lenQ (by rfl) m_len PySem.boot_len (pa_cons (pe_ix ix_tup (pv 0) (pe_int) (fun _ _ => rfl)) pa_nil)) pa_nil)))), ?_⟩
    obtain ⟨_, ca, ga, xs, e, hi, hc', hg', hgs⟩ := inst_open hI
    cases e
    have lx : xs.length = gs.length := by have := DpAll.len hgs; rwa [List.length_map] at this
    have hil := (List.getElem?_eq_some_iff.mp hg).1
    have ex : xs[gi]? = some xs[gi] := List.getElem?_eq_getElem (by omega)
    obtain ⟨dd, hdd, hxd⟩ := DpAll.at hgs ex
    rw [List.getElem?_map, hg] at hdd
    have hdd : dGrp g = dd := Option.some.inj hdd
    subst hdd
    obtain ⟨gA, pA, eA, hG, hP⟩ := grp_ref hxd
    rw [eA] at ex
    have one : (1 : Nat) ≤ sizeLine := by decide
    refine ⟨.ref i, rfl, i, _, 1, .ref ga, rfl, rfl, hi, atI_nat (j := 1) rfl, .int (gi : Nat), rfl, ga, _, _, .ref gA, rfl, rfl, hg', atI_nat (j := gi) ex, gA, _, 0, .ref pA, rfl, rfl, hG, atI_nat (j := 0) rfl, ?_⟩
    refine ⟨.ref i, rfl, i, _, 0, .ref ca, rfl, rfl, hi, atI_nat (j := 0) rfl, ca, _, rfl, .inr hc', one, fun T nT => ?_⟩
    have sT := sameNew (o := .tup [.int ((cs.map V.int).length : Nat)]) nT
    refine cat_eq ((TupK.of sT).sq hP) (SqT.of upd_same) (Nat.le_of_lt (small (by simp only [List.length_map, List.length_cons, List.length_nil]; omega))) fun H2 p2 s2 hp2 => q H2 p2 (sT.trans s2) ?_
    unfold colsOf
    rw [List.map_append]
    rw [List.length_map] at hp2
    exact hp2
set_option maxHeartbeats 4000000 in
theorem ok_PT {f fTI : Addr} {fd fdTI : FuncData} {cT : Addr} (T : TTx K mg cT) (F : Fun K "post_transport" "post_transport" sPT f fd)
    (FTI : Fun K "__init__" "Transport.__init__" sTI fTI fdTI) (bTI : Binds K fdTI ["self", "room"] []) (mTI : Mk K cT fTI) (GTI : FnOk P w K mg base CX0 1 fTI fdTI ["self", "room"] (spTI K cT))
    (m_list : mg "list" = none) (m_sum : mg "sum" = none) :
    FnOk P w K mg base CX0 3 f fd ["instance"] (spPT K cT) := by
  refine F.ok scPT (fun vs H Q E h => ?_) (fun cdv A outer s H vs Q E hr h => ?_)
  · obtain ⟨i, cs, gs, rfl, _⟩ := h; rfl
  · obtain ⟨i, cs, gs, rfl, hI, hc, hl, q⟩ := h
    refine ⟨_, pss_cons (ps_asg (pv 0) (pg_tup rfl (pgs_cons (pg_name (i := 1) scPT.nd rfl (.inl rfl)) (pgs_cons (pg_name (i := 2) scPT.nd rfl (.inl rfl)) pgs_nil))))
      (pss_one (ps_ret (pe_make mTI GTI (hr.mono (by omega)) (by rfl) T.mgC bTI .nil pass0 (pa_cons (pe_op op_cat (pe_callTy call_list_of (by rfl) m_list (by decide +kernel) (pa_cons (pv 1) pa_nil)) (pe_lst (pa_cons (pe_op op_add (pe_callB (cr_sum rfl) (by rfl) m_sum (by decide +kernel) (pa_cons (pe_lc (own := [("posts", 3), ("count", 4)]) (g := gTup K 2 (gCons (gName 3) (gCons (gName 4) gNil))) (tt := tYes) (te := tVar 4) rfl scPT.nd (pi_tup (pv 2)) (blkOk_by (N := ["instance", "capacities", "groups", "posts", "count"]) (sc := defScope sPT) (by decide +kernel)) (fun _ _ _ _ _ => pg_tup rfl (pgs_cons (pg_name (i := 3) scPT.nd rfl (.inl rfl)) (pgs_cons (pg_name (i := 4) scPT.nd rfl (.inl rfl)) pgs_nil))) (fun _ _ _ _ _ => pts_nil) (fun _ _ _ _ _ => pv 4)) pa_nil)) (pe_int)) pa_nil))) pa_nil)))), ?_⟩
    obtain ⟨_, ca, ga, xs, e, hi, hc', hg', hgs⟩ := inst_open hI
    cases e
    have lx : xs.length = gs.length := by have := DpAll.len hgs; rwa [List.length_map] at this
    have one : (1 : Nat) ≤ sizeLine := by decide
    refine ⟨.ref i, rfl, i, _, rfl, hi, rfl, _, _, rfl, _, _, rfl, rfl, ?_⟩
    refine ⟨.ref ca, rfl, ca, _, rfl, .inr hc', fun l1 n1 => ?_⟩
    have s1 := sameNew (o := .lst (cs.map V.int)) n1
    refine ⟨.ref ga, rfl, ga, rfl, ⟨_, (TupK.of s1).sq hg'⟩, fun D nD => lc_it (walk_tup (K := K) (a := ga) (xs := xs)) (LcP (upd H l1 (.lst (cs.map V.int))) D gs (fun g => some (V.int g.2))) (.start nD) (fun m Hm _ h => (TupK.of (s1.trans h.1)).sq hg') ?_ ?_⟩
    · rintro k y Hz Hc hk hP ⟨rfl, hy⟩
      have hy : xs[k]? = some y := hy
      obtain ⟨dd, hdd, hxd⟩ := DpAll.at hgs hy
      rw [List.getElem?_map] at hdd
      obtain ⟨g, hgk, rfl⟩ := Option.map_eq_some_iff.mp hdd
      obtain ⟨gA, pA, rfl, hG, hPp⟩ := grp_ref hxd
      refine ⟨gA, _, rfl, (TupK.of (s1.trans hP.1)).sq hG, rfl, _, _, rfl, _, _, rfl, rfl, rfl, ?_⟩
      exact ⟨.int g.2, rfl, hP.yes nD (Same.refl _) hgk rfl (by omega)⟩
    rintro H2 hP
    have eD := hP.done (by omega)
    rw [fm_map] at eD
    have e1 := hP.1 _ _ (show upd H l1 (.lst (cs.map V.int)) l1 = some (.lst (cs.map V.int)) from upd_same)
    refine ⟨D, gs.map (·.2), rfl, SqL.of (by rw [eD, List.map_map]; rfl), _, _, rfl, rfl, one, fun l3 n3 => ?_⟩
    have s3 := sameNew (o := .lst [.int ((gs.map (·.2)).sum + 1)]) n3
    refine ⟨l1, l3, _, _, rfl, rfl, s3 _ _ e1, upd_same, by rw [List.length_map]; exact Nat.le_of_lt (small (by simp only [List.length_cons, List.length_nil]; omega)), fun l4 n4 => ?_⟩
    have s4 := sameNew (o := .lst (cs.map V.int ++ [.int ((gs.map (·.2)).sum + 1)])) n4
    have sA := ((s1.trans hP.1).trans s3).trans s4
    have e4 : upd (upd H2 l3 (.lst [.int ((gs.map (·.2)).sum + 1)])) l4 (.lst (cs.map V.int ++ [.int ((gs.map (·.2)).sum + 1)])) l4 = some (.lst ((cs ++ [(gs.map (·.2)).sum + 1]).map V.int)) := by rw [upd_same, List.map_append]; rfl
    intro x dx nx ndx nex
    have s5 := sA.trans ((sameNew (o := .own x) ndx).trans (sameNew (o := .ins cT dx []) (show upd _ dx (.own x) x = none by rw [upd_ne nex.symm]; exact nx)))
    have e5 := ((sameNew (o := .own x) ndx).trans (sameNew (o := .ins cT dx []) (show upd _ dx (.own x) x = none by rw [upd_ne nex.symm]; exact nx))) _ _ e4
    refine ⟨x, dx, l4, _, rfl, upd_same, SqL.of e5, fun H' r c p nr nc np hT fr => ⟨rfl, ?_⟩⟩
    refine q H' x r c p (fun b o e => fr b o (s5 _ _ e) (ne_of_none (sA _ _ e) nx)) (s5.free nr) (s5.free nc) (s5.free np) hT
set_option maxHeartbeats 8000000 in
theorem ok_VT {f fPT fOC fVo fTA : Addr} {fd fdPT fdOC fdVo fdTA : FuncData} {cT : Addr} (T : TTx K mg cT) (F : Fun K "vote_transport" "vote_transport" sVT f fd)
    (FPT : Fun K "post_transport" "post_transport" sPT fPT fdPT) (bPT : Binds K fdPT ["instance"] []) (gPT : mg "post_transport" = some (.ref fPT)) (GPT : FnOk P w K mg base CX0 3 fPT fdPT ["instance"] (spPT K cT))
    (FOC : Fun K "option_columns" "option_columns" sOC fOC fdOC) (bOC : Binds K fdOC ["instance", "group"] []) (gOC : mg "option_columns" = some (.ref fOC)) (GOC : FnOk P w K mg base CX0 1 fOC fdOC ["instance", "group"] (spOC K))
    (FVo : Fun K "vote" "vote" sVo fVo fdVo) (bVo : Binds K fdVo ["start", "end"] []) (gVo : mg "vote" = some (.ref fVo)) (GVo : FnOk P w K mg base CX0 1 fVo fdVo ["start", "end"] spVo)
    (FTA : Fun K "add_row" "Transport.add_row" sTA fTA fdTA) (bTA : Binds K fdTA ["self", "amount", "costs"] []) (mTA : Meth K cT "add_row" fTA) (GTA : FnOk P w K mg base CX0 3 fTA fdTA ["self", "amount", "costs"] (spTA cT))
    (m_enumerate : mg "enumerate" = none) :
    FnOk P w K mg base CX0 4 f fd ["instance", "assignment"] (spVT K cT) := by
  refine F.ok scVT (fun vs H Q E h => ?_) (fun cdv A outer s H vs Q E hr h => ?_)
  · obtain ⟨i, a, cs, gs, rows, rfl, _⟩ := h; rfl
  · obtain ⟨i, a, cs, gs, rows, rfl, hI, hA, hM, hZ, q⟩ := h
    refine ⟨_, pss_cons (ps_set (i := 2) scVT.nd rfl (.inl rfl) (pe_call GPT (hr.mono (by omega)) (by rfl) gPT FPT.kp bPT .nil pass0 (pa_cons (pv 0) pa_nil)))
      (pss_cons (ps_for PassesOwn.never rfl (pi_enumT (by rfl) m_enumerate (pa_cons (pv 1) pa_nil)) (pg_tup rfl (pgs_cons (pg_name (i := 3) scVT.nd rfl (.inl rfl)) (pgs_cons (pg_name (i := 4) scVT.nd rfl (.inl rfl)) pgs_nil)))
        (pss_cons (ps_set (i := 5) scVT.nd rfl (.inl rfl) (pe_call GOC (hr.mono (by omega)) (by rfl) gOC FOC.kp bOC .nil pass0 (pa_cons (pv 0) (pa_cons (pv 3) pa_nil))))
        (pss_one (ps_for PassesOwn.never rfl (pi_enumT (by rfl) m_enumerate (pa_cons (pv 4) pa_nil)) (pg_tup rfl (pgs_cons (pg_name (i := 6) scVT.nd rfl (.inr rfl)) (pgs_cons (pg_name (i := 7) scVT.nd rfl (.inl rfl)) pgs_nil)))
          (pss_one (ps_expr (pe_meth (pv 2) T.cl mTA GTA (hr.mono (by omega)) bTA .nil pass0 (pa_cons (pv 7) (pa_cons (pe_dc (own := [("end", 8), ("column", 9)]) (g := gTup K 2 (gCons (gName 8) (gCons (gName 9) gNil))) (tt := tYes) (tk := tVar 9) (tv := tUn (rU fun i => .int (-i)) (tCall spVo [] E0 (tCons (tVar 6) (tCons (tVar 8) tNil)))) rfl scVT.nd (pi_enumT (by rfl) m_enumerate (pa_cons (pv 5) pa_nil)) (blkOk_by (N := ["instance", "assignment", "transport", "group", "share", "columns", "start", "number", "end", "column"]) (sc := defScope sVT) (by decide +kernel)) (fun _ _ _ _ _ => pg_tup rfl (pgs_cons (pg_name (i := 8) scVT.nd rfl (.inl rfl)) (pgs_cons (pg_name (i := 9) scVT.nd rfl (.inl rfl)) pgs_nil))) (fun _ _ _ _ _ => pts_nil) (fun _ _ _ _ _ => pv 9) (fun _ _ _ _ _ => pe_un un_neg (pe_call GVo (hr.mono (by omega)) (by rfl) gVo FVo.kp bVo .nil pass0 (pa_cons (pv 6) (pa_cons (pv 8) pa_nil))))) pa_nil)))))))))
      (pss_one (ps_ret (pv 2)))), ?_⟩
    obtain ⟨a', as, e, hAa, hAs⟩ := asg_open hA
    cases e
    have las : as.length = rows.length := by have := DpAll.len hAs; rwa [List.length_map] at this
    have hc6 := hZ.c6
    have hg10 := hZ.g10
    have hrl := hM.rl
    have szI : ∀ j, (allItems cs.length (gs.take j) (rows.take j)).length ≤ 7 * j := fun j => by
      induction j with
      | zero => simp [allItems]
      | succ j ih =>
        by_cases h : j < gs.length
        · have eg : gs[j]? = some gs[j] := List.getElem?_eq_getElem h
          have er : rows[j]? = some rows[j] := List.getElem?_eq_getElem (by omega)
          have := (hM.sh j _ _ eg er).1
          have := hZ.ps6 _ (List.getElem_mem h)
          rw [items_snoc cs.length eg er, List.length_append, itemsOf_len]; omega
        · rw [List.take_of_length_le (by omega), List.take_of_length_le (by omega)]
          rw [List.take_of_length_le (by omega), List.take_of_length_le (by omega)] at ih
          omega
    refine ⟨.ref i, rfl, i, cs, gs, rfl, hI, by omega, by omega, fun H1 x r c p s1 nr nc np hT1 => ?_⟩
    have hroom : ∀ y ∈ cs ++ [(gs.map (·.2)).sum + 1], (0 : Int) ≤ y := fun y hy => by
      rcases List.mem_append.mp hy with h | h
      · have := hM.cb y h; omega
      · have : y = (gs.map (·.2)).sum + 1 := by simpa using h
        have h2 : ∀ l : List Gp, (∀ g ∈ l, 0 ≤ g.2) → 0 ≤ (l.map (·.2)).sum := fun l => by
          induction l with
          | nil => intro _; exact Int.le_refl _
          | cons a l ih => intro h; have := ih fun g hg => h g (List.mem_cons_of_mem _ hg); have := h a List.mem_cons_self; show 0 ≤ a.2 + (l.map (·.2)).sum; omega
        have := h2 gs fun g hg => (hM.gp g hg).2.2
        omega
    refine ⟨.ref a, rfl, a, _, rfl, (TupK.of s1).sq hAa, for_it (walk_enumT (K := K) (a := a) (xs := as))
      (fun j σ Hc => ∃ (y3 y4 y5 y6 y7 y8 y9 : Option V) (cd pd : List Addr) (t : Tr.T), σ = [some (.ref i), some (.ref a), some (.ref x), y3, y4, y5, y6, y7, y8, y9] ∧ Same H Hc ∧ TrAt cT Hc x r c p cd pd t ∧ (∀ b ∈ pd, H b = none) ∧ RunOk (start cs gs) (allItems cs.length (gs.take j) (rows.take j)) t ∧ Runs (start cs gs) (allItems cs.length (gs.take j) (rows.take j)) t)
      ⟨_, _, _, _, _, _, _, [], [], _, rfl, s1, hT1, (fun b h => by cases h), by show RunOk _ (allItems cs.length [] []) _; exact runOk_nil hroom, by show Runs _ (allItems cs.length [] []) _; exact .nil⟩ (fun j σ Hc _ h => by obtain ⟨_, _, _, _, _, _, _, _, _, _, _, s, _⟩ := h; exact (TupK.of s).sq hAa) ?_ ?_⟩
    · rintro j v σ Ha Hb hj ⟨y3, y4, y5, y6, y7, y8, y9, cd, pd, t, rfl, sc, hTc, hpd, hR, hRu⟩ ⟨Tp, u, w', rfl, nTp, rfl, hu, hv⟩
      have hu : V.int (j : Nat) = u := Option.some.inj hu
      subst hu
      have hv : as[j]? = some w' := hv
      obtain ⟨dd, hdd, hxd⟩ := DpAll.at hAs hv
      rw [List.getElem?_map] at hdd
      obtain ⟨row, hrow, rfl⟩ := Option.map_eq_some_iff.mp hdd
      obtain ⟨rA, rfl, hRow⟩ := dI_ref hxd
      have hjr := (List.getElem?_eq_some_iff.mp hrow).1
      have hjg : j < gs.length := by omega
      have eg : gs[j]? = some gs[j] := List.getElem?_eq_getElem hjg
      obtain ⟨g1, g2, g3⟩ := hM.gp _ (List.getElem_mem hjg)
      have g6 := hZ.ps6 _ (List.getElem_mem hjg)
      generalize gs[j] = g at eg g1 g2 g3 g6
      obtain ⟨sh1, sh2, sh3⟩ := hM.sh j g row eg hrow
      have sT := sameNew (o := .tup [.int (j : Nat), .ref rA]) nTp
      have sb := sc.trans sT
      have hT2 := hTc.same sT
      refine ⟨Tp, _, rfl, SqT.of upd_same, rfl, _, _, rfl, _, _, rfl, rfl, ?_⟩
      refine ⟨.ref i, rfl, .int (j : Nat), rfl, i, j, cs, gs, g, rfl, (TupK.of sb).dp _ _ (to_dInst _ _) hI, eg, by omega, by omega, fun H3 colA s3 hcol => ?_⟩
      have s03 := sb.trans s3
      have hT3 := hT2.same s3
      have nd := cols_nd (m := cs.length) g2 g1
      refine ⟨.ref rA, rfl, rA, _, rfl, (TupK.of s03).sq hRow, for_it (walk_enumT (K := K) (a := rA) (xs := row.map V.int))
        (fun s σ Hc => ∃ (y6 y7 y8 y9 : Option V) (cd pd : List Addr) (t : Tr.T), σ = [some (.ref i), some (.ref a), some (.ref x), some (.int (j : Nat)), some (.ref rA), some (.ref colA), y6, y7, y8, y9] ∧ Same H Hc ∧ SqT K Hc colA ((colsOf cs.length g.1).map V.int) ∧ TrAt cT Hc x r c p cd pd t ∧ (∀ b ∈ pd, H b = none) ∧ RunOk (start cs gs) (allItems cs.length (gs.take j) (rows.take j) ++ (itemsOf cs.length g.1 row).take s) t ∧ Runs (start cs gs) (allItems cs.length (gs.take j) (rows.take j) ++ (itemsOf cs.length g.1 row).take s) t)
        ⟨_, _, _, _, cd, pd, t, rfl, s03, hcol, hT3, hpd, by rw [List.take_zero, List.append_nil]; exact hR, by rw [List.take_zero, List.append_nil]; exact hRu⟩ (fun s σ Hc _ h => by obtain ⟨_, _, _, _, _, _, _, _, s', _⟩ := h; exact (TupK.of s').sq hRow) ?_ ?_⟩
      · rintro s v σ Hx Hy hs ⟨z6, z7, z8, z9, cd4, pd4, t4, rfl, s4, hcol4, hT4, hpd4, hR4, hRu4⟩ ⟨Tq, u, w', rfl, nTq, rfl, hu, hv⟩
        have hu : V.int (s : Nat) = u := Option.some.inj hu
        subst hu
        have hv : (row.map V.int)[s]? = some w' := hv
        rw [List.getElem?_map] at hv
        obtain ⟨n, hn, rfl⟩ := Option.map_eq_some_iff.mp hv
        rw [List.length_map] at hs
        have sq := sameNew (o := .tup [.int (s : Nat), .int n]) nTq
        have hT5 := hT4.same sq
        obtain ⟨dx5, ob5⟩ := hT5.ob
        have s5 := s4.trans sq
        have hcol5 := (TupK.of sq).sq hcol4
        refine ⟨Tq, _, rfl, SqT.of upd_same, rfl, _, _, rfl, _, _, rfl, rfl, ?_⟩
        generalize upd Hx Tq (.tup [.int (s : Nat), .int n]) = H5 at hT5 ob5 s5 hcol5 ⊢
        refine ⟨.ref x, rfl, x, dx5, _, rfl, ob5, fT_no _ _ _ (by decide +kernel) (by decide +kernel) (by decide +kernel), .int n, rfl, .ref colA, rfl, colA, _, rfl, hcol5, fun D nD => ?_⟩
        refine dc_it (walk_enumT (K := K) (a := colA) (xs := (colsOf cs.length g.1).map V.int)) (fun e Hc => Same H5 Hc ∧ Hc D = some (.dK (dk ((voteRow cs.length g.1 s).take e)))) ⟨sameNew nD, upd_same⟩ (fun e Hc _ h => (TupK.of h.1).sq hcol5) ?_ ?_
        · rintro e v Hp Hq he ⟨s6, eD⟩ ⟨Ts, u, w', rfl, nTs, rfl, hu, hv⟩
          have hu : V.int (e : Nat) = u := Option.some.inj hu
          subst hu
          have hv : ((colsOf cs.length g.1).map V.int)[e]? = some w' := hv
          rw [List.length_map, colsOf_len] at he
          rw [List.getElem?_map, getD_some (by rw [colsOf_len]; exact he)] at hv
          have hv : V.int ((colsOf cs.length g.1).getD e 0) = w' := Option.some.inj hv
          subst hv
          have s7 := sameNew (o := .tup [.int (e : Nat), .int ((colsOf cs.length g.1).getD e 0)]) nTs
          refine ⟨Ts, _, rfl, SqT.of upd_same, rfl, _, _, rfl, _, _, rfl, rfl, rfl, ?_⟩
          refine ⟨.int ((colsOf cs.length g.1).getD e 0), rfl, .int (s : Nat), rfl, .int (e : Nat), rfl, (s : Int), (e : Int), rfl, _, rfl, ?_⟩
          obtain ⟨vt, ndt⟩ := voteRow_take nd (s := s) he
          refine ⟨_, Sum.inl ((colsOf cs.length g.1).getD e 0), rfl, s7 _ _ eD, by rw [dkW_len, List.length_take]; exact small (by omega), fun b o eb => by rw [upd_ne (ne_of_none eb nD)]; exact s7 _ _ (s6 _ _ eb), ?_⟩
          rw [upd_same, ← vt]
          show some (HO.dK (putK (dk ((voteRow cs.length g.1 s).take e)) (Sum.inl ((colsOf cs.length g.1).getD e 0) : L2.Key) (V.int (-voteI (s : Int) (e : Int))))) = _
          rw [putK_dkW V.int ndt]
        · rintro Hd ⟨s6, eD⟩
          have lv : (voteRow cs.length g.1 s).length = g.1.length + 1 := by unfold voteRow; rw [List.length_map, List.length_range]
          rw [List.length_map, colsOf_len, List.take_of_length_le (by rw [lv]; exact Nat.le_refl _)] at eD
          have hT6 := hT5.same s6
          have it : (itemsOf cs.length g.1 row)[s]? = some (voteRow cs.length g.1 s, n) := by
            unfold itemsOf
            rw [List.getElem?_map, List.getElem?_range hs]
            show some (voteRow cs.length g.1 s, row.getD s 0) = _
            rw [List.getD_eq_getElem?_getD, hn]; rfl
          have rlen : t4.room.length = cs.length + 1 := by rw [hR4.rl]; show (cs ++ [_]).length = _; rw [List.length_append]; rfl
          have ndv : (Tr.ks (voteRow cs.length g.1 s)).Nodup := by rw [ks_voteRow]; exact nd
          have rgv : ∀ k ∈ Tr.ks (voteRow cs.length g.1 s), 0 ≤ k ∧ k < t4.room.length := fun k hk => by
            rw [ks_voteRow] at hk
            rw [rlen]
            rcases List.mem_append.mp hk with h | h
            · have := g1 k h; omega
            · have : k = (cs.length : Int) := by simpa using h
              omega
          obtain ⟨pk, hpk⟩ := hR4.pot
          have n0 : 0 ≤ n := sh3 n (List.mem_of_getElem? hn)
          have pl4 : t4.plan.length ≤ 80 := by
            rw [hR4.pl, List.length_append, List.length_take, itemsOf_len]
            have := szI j
            omega
          have nDp : ¬ D ∈ pd4 := fun hin => by
            obtain ⟨k, e⟩ := hT5.pdAll D hin
            rw [nD] at e; cases e
          refine ⟨x, r, c, p, D, cd4, pd4, t4, voteRow cs.length g.1 s, n, pk, rfl, hT6, hR4.wf, by omega, by omega, hpk, eD, ndv, rgv, nDp, fun H7 cd7 pd7 t7 r7 fr7 hT7 hn7 hAdd => ?_⟩
          have hnone := hR4.none (x := n) ndv rgv (m := (cs.length : Int)) (by rw [ks_voteRow]; exact List.mem_append_right _ List.mem_cons_self) ?_ hAdd
          · subst hnone
            refine ⟨fun _ => ?_, fun F e => nomatch e⟩
            have s06 := s5.trans s6
            refine ⟨_, _, _, _, cd7, pd7, t7, rfl, fun b o e => fr7 b o (s06 _ _ e) (fun z => by rw [z, nr] at e; cases e) (fun z => by rw [z, nc] at e; cases e) (fun z => by rw [z, np] at e; cases e) (fun hin => by rw [hpd4 b hin] at e; cases e), ?_, hT7, fun b hb => ?_, ?_, ?_⟩
            · have tk : TupK Hd H7 := by
                intro b xs
                have nl : ∀ {o}, Hd b = some o → (∀ vs, o ≠ .lst vs) → (∀ kvs, o ≠ .dK kvs) → H7 b = some o := fun e h1 h2 => fr7 b _ e (fun z => by rw [z, hT6.rm] at e; cases e; exact h1 _ rfl) (fun z => by rw [z, hT6.cs] at e; cases e; exact h1 _ rfl) (fun z => by rw [z, hT6.pl] at e; cases e; exact h1 _ rfl) (fun hin => by
                  obtain ⟨k, q'⟩ := hT6.pdAll b hin
                  rw [q'] at e; cases e; exact h2 _ rfl)
                exact ⟨fun e => nl e (fun _ z => by cases z) (fun _ z => by cases z), fun u e => nl e (fun _ z => by cases z) (fun _ z => by cases z)⟩
              exact tk.sq ((TupK.of s6).sq hcol5)
            · rcases hn7 b hb with h | h
              · exact hpd4 b h
              · exact s06.free h
            · rw [take_snoc it, ← List.append_assoc]
              exact hR4.snoc ndv rgv n0 hAdd
            · rw [take_snoc it, ← List.append_assoc]
              exact .snoc hRu4 hAdd
          · rw [rm_last, List.map_append, List.sum_append]
            have h1 := items_take_le cs.length (gs := gs) (rows := rows) j (fun g hg => (hM.gp g hg).2.2) fun i g row a b => (hM.sh i g row a b).2.1
            have h2 : (((itemsOf cs.length g.1 row).take s).map (·.2)).sum + n = (((itemsOf cs.length g.1 row).take (s + 1)).map (·.2)).sum := by
              rw [take_snoc it, List.map_append, List.sum_append]; simp
            have h3 : (((itemsOf cs.length g.1 row).take (s + 1)).map (·.2)).sum ≤ g.2 := by
              have e1 : (itemsOf cs.length g.1 row).map (·.2) = row := by
                refine List.ext_getElem? fun k => ?_
                unfold itemsOf
                rw [List.map_map, List.getElem?_map]
                by_cases hk : k < row.length
                · rw [List.getElem?_range hk, getD_some hk]; rfl
                · rw [List.getElem?_eq_none (by simp; omega), List.getElem?_eq_none (by omega)]; rfl
              rw [List.map_take, e1, ← sh2]
              exact sum_take_le sh3 _
            have h4 : ((gs.take j).map (·.2)).sum + g.2 = ((gs.take (j + 1)).map (·.2)).sum := by
              rw [take_snoc eg, List.map_append, List.sum_append]; simp
            have h5 : ((gs.take (j + 1)).map (·.2)).sum ≤ (gs.map (·.2)).sum := by
              rw [List.map_take]
              exact sum_take_le (fun y hy => by obtain ⟨g', hg', rfl⟩ := List.mem_map.mp hy; exact (hM.gp g' hg').2.2) _
            omega
      · rintro σ Hx ⟨z6, z7, z8, z9, cd4, pd4, t4, rfl, s4, hcol4, hT4, hpd4, hR4, hRu4⟩
        have el : (itemsOf cs.length g.1 row).take (row.map V.int).length = itemsOf cs.length g.1 row := List.take_of_length_le (by rw [itemsOf_len, List.length_map]; exact Nat.le_refl _)
        rw [el, ← items_snoc cs.length eg hrow] at hR4 hRu4
        exact ⟨_, _, _, _, _, _, _, cd4, pd4, t4, rfl, s4, hT4, hpd4, hR4, hRu4⟩
    · rintro σ Hc ⟨y3, y4, y5, y6, y7, y8, y9, cd, pd, t, rfl, sc, hTc, hpd, hR, hRu⟩
      rw [List.take_of_length_le (l := gs) (by omega), List.take_of_length_le (l := rows) (by omega)] at hR hRu
      exact ⟨_, rfl, q Hc x r c p cd pd t sc hTc hR hRu⟩
end
end Pv

namespace Pv
open PySem PySem.Spec PyProof.Rows L2
abbrev sGT : Stmt := topS 16
theorem scGT : FnScope ["assignment", "rows", "tables", "done", "share"] ["assignment", "rows"] (defScope sGT) := ⟨rfl, rfl, rfl, by decide +kernel, rfl, by decide +kernel, by decide +kernel⟩
abbrev sMC : Stmt := topS 26
theorem scMC : FnScope ["instance", "assignment", "transport", "change", "prices", "numbers"] ["instance", "assignment"] (defScope sMC) := ⟨rfl, rfl, rfl, by decide +kernel, rfl, by decide +kernel, by decide +kernel⟩

theorem cut_nat (xs : List V) {a b : Nat} (h : a ≤ b) (hb : b ≤ xs.length) : cutV xs (some (a : Int)) (some (b : Int)) = (xs.drop a).take (b - a) := by
  unfold cutV
  rw [HT.sIx_nat, HT.sIx_nat, Nat.min_eq_left (by omega), Nat.min_eq_left (by omega)]
theorem cut_last (xs : List V) (h : 1 ≤ xs.length) : cutV xs none (some (-1)) = xs.dropLast := by
  unfold cutV
  rw [HT.sIx_none]
  have : HT.sIx xs.length xs.length (some (-1)) = xs.length - 1 := by
    show (if (-1 : Int) < 0 then ((-1 : Int) + (xs.length : Int)).toNat else min (-1 : Int).toNat xs.length) = _
    rw [if_pos (by decide)]
    omega
  rw [this, List.drop_zero, List.dropLast_eq_take]
  rfl
theorem rl_dp {K : PySem.W.Frag} {H : Hp} {α : Type} {f : α → PyData} : ∀ {vs : List V} {l : List α}, Rl (fun v g => Dp K H v (f g)) vs l → DpAll K H vs (l.map f)
  | [], [], _ => .nil
  | [], _ :: _, h => by have := h.1; simp at this
  | _ :: _, [], h => by have := h.1; simp at this
  | v :: vs, g :: l, h => .cons (h.2 0 v g rfl rfl) (rl_dp ⟨by have := h.1; simpa using this, fun j v' g' h1 h2 => h.2 (j + 1) v' g' (by simpa using h1) (by simpa using h2)⟩)
theorem off_succ : ∀ {rows : List (List Int)} {j : Nat} {row : List Int}, rows[j]? = some row → off rows (j + 1) = off rows j + row.length
  | [], j, row, h => by simp at h
  | r :: rows, 0, row, h => by
    have : r = row := by simpa using h
    subst this
    show r.length + off rows 0 = 0 + r.length
    have : off rows 0 = 0 := by cases rows <;> rfl
    omega
  | r :: rows, j + 1, row, h => by
    show r.length + off rows (j + 1) = r.length + off rows j + row.length
    rw [off_succ (rows := rows) (by simpa using h)]; omega
theorem DpAll.sub {K : PySem.W.Frag} {H : Hp} : ∀ {vs : List V} {ds : List PyData} (a n : Nat), DpAll K H vs ds → DpAll K H ((vs.drop a).take n) ((ds.drop a).take n)
  | _, _, a, n, .nil => by simp; exact .nil
  | _, _, 0, 0, .cons _ _ => .nil
  | _, _, 0, n + 1, .cons h t => .cons h (by simpa using DpAll.sub 0 n t)
  | _, _, a + 1, n, .cons h t => by simpa using DpAll.sub a n t
def dCert (rows : List (List Int)) (t : Tr.T) : PyData := .tuple [.int (votesOf (certTabs rows t)).sum, dTabs (certTabs rows t), dI (certPr t)]
theorem to_dCert (rows : List (List Int)) (t : Tr.T) : tupOnly (dCert rows t) = true := by simp [dCert, tupOnly, tupOnlyAll, to_dI, to_dTabs]
def spGT (K : PySem.W.Frag) : Sp := fun vs H Q _ => ∃ (a l : Addr) (rows vals : List (List Int)) (us : List V), vs = [.ref a, .ref l] ∧ Dp K H (.ref a) (dAsg rows) ∧ H l = some (.lst us) ∧ DpAll K H us (vals.map dI) ∧ vals.length = off rows rows.length ∧ rows.length ≤ 900 ∧ vals.length ≤ 900 ∧ (∀ r ∈ rows, r.length ≤ 900) ∧
  ∀ H' p, Same H H' → Dp K H' (.ref p) (dTabs (gatherT rows vals)) → Q (.ref p) H'
def spMC (K : PySem.W.Frag) : Sp := fun vs H Q _ => ∃ (i a : Addr) (cs : List Int) (gs : List Gp) (rows : List (List Int)), vs = [.ref i, .ref a] ∧ Dp K H (.ref i) (dInst cs gs) ∧ Dp K H (.ref a) (dAsg rows) ∧ MIn cs gs rows ∧ MSz cs gs ∧
  ∀ H' p t, Same H H' → RunOk (start cs gs) (allItems cs.length gs rows) t → Runs (start cs gs) (allItems cs.length gs rows) t → Dp K H' (.ref p) (dCert rows t) → Q (.ref p) H'
def spMa (K : PySem.W.Frag) : Sp := fun vs H Q _ => ∃ (i a : Addr) (cs : List Int) (gs : List Gp) (rows : List (List Int)), vs = [.ref i, .ref a] ∧ Dp K H (.ref i) (dInst cs gs) ∧ Dp K H (.ref a) (dAsg rows) ∧ MIn cs gs rows ∧ MSz cs gs ∧
  ∀ H' t, Same H H' → RunOk (start cs gs) (allItems cs.length gs rows) t → Runs (start cs gs) (allItems cs.length gs rows) t → Q (.int (votesOf (certTabs rows t)).sum) H'
section
variable {P : Program} {w : World} {K : PySem.W.Frag} {mg : Str → Option Value} {base : Heap}
set_option maxHeartbeats 4000000 in
theorem ok_GT {f : Addr} {fd : FuncData} (F : Fun K "gathered_tables" "gathered_tables" sGT f fd)
    (m_len : mg "len" = none) (m_tuple : mg "tuple" = none) :
    FnOk P w K mg base CX0 1 f fd ["assignment", "rows"] (spGT K) := by
  refine F.ok scGT (fun vs H Q E h => ?_) (fun cdv A outer s H vs Q E hr h => ?_)
  · obtain ⟨a, l, rows, vals, us, rfl, _⟩ := h; rfl
  · obtain ⟨a, l, rows, vals, us, rfl, hA, hl, hus, hvl, hr9, hv9, hrr, q⟩ := h
    refine ⟨_, pss_cons (ps_set (i := 2) scGT.nd rfl (.inl rfl) (pe_lst (pa_nil)))
      (pss_cons (ps_set (i := 3) scGT.nd rfl (.inl rfl) (pe_int))
      (pss_cons (ps_for PassesOwn.never rfl (pi_tup (pv 0)) (pg_name (i := 4) scGT.nd rfl (.inl rfl))
        (pss_cons (ps_expr (pe_bm PySem.F.plainAttrs_list PySem.F.slot_list_append PySem.F.type_list_append mt_append (pv 2) (pa_cons (pe_callTy call_tupQ (by rfl) m_tuple (by decide +kernel) (pa_cons (pe_slice sl_list (pv 1) (po_some (pv 3)) (po_some (pe_op op_add (pv 3) (pe_callB call_lenQ (by rfl) m_len PySem.boot_len (pa_cons (pv 4) pa_nil))))) pa_nil)) pa_nil)))
        (pss_one (ps_aug (i := 3) scGT.nd rfl (.inl rfl) (pe_callB call_lenQ (by rfl) m_len PySem.boot_len (pa_cons (pv 4) pa_nil)) ip_add))))
      (pss_one (ps_ret (pe_callTy call_tupQ (by rfl) m_tuple (by decide +kernel) (pa_cons (pv 2) pa_nil)))))), ?_⟩
    obtain ⟨a', as, e, hAa, hAs⟩ := asg_open hA
    cases e
    have las : as.length = rows.length := by have := DpAll.len hAs; rwa [List.length_map] at this
    have lus : us.length = vals.length := by have := DpAll.len hus; rwa [List.length_map] at this
    refine ⟨Nat.zero_le _, fun D nD => ?_⟩
    have sD := sameNew (o := .lst []) nD
    refine ⟨.ref a, rfl, a, rfl, ⟨_, (TupK.of sD).sq hAa⟩, for_it (walk_tup (K := K) (a := a) (xs := as))
      (fun j σ Hc => ∃ (y4 : Option V) (ts : List V), σ = [some (.ref a), some (.ref l), some (.ref D), some (.int (off rows j : Nat)), y4] ∧ Same H Hc ∧ Hc D = some (.lst ts) ∧ DpAll K Hc ts (((gatherT rows vals).take j).map dAsg) ∧ ts.length = j)
      ⟨none, [], by rw [show off rows 0 = 0 by cases rows <;> rfl]; rfl, sD, upd_same, .nil, rfl⟩ (fun j σ Hc _ h => by obtain ⟨_, _, _, s, _⟩ := h; exact (TupK.of s).sq hAa) ?_ ?_⟩
    · rintro j y σ Hz Hc hj ⟨y4, ts, rfl, sc, eD, hts, lts⟩ ⟨rfl, hy⟩
      have hy : as[j]? = some y := hy
      obtain ⟨dd, hdd, hxd⟩ := DpAll.at hAs hy
      rw [List.getElem?_map] at hdd
      obtain ⟨row, hrow, rfl⟩ := Option.map_eq_some_iff.mp hdd
      obtain ⟨rA, rfl, hRow⟩ := dI_ref hxd
      have ol := off_le hrow
      have hrl := hrr row (List.mem_of_getElem? hrow)
      refine ⟨.ref D, rfl, .inl ⟨rfl, _, SqL.of eD⟩, .ref l, rfl, .int (off rows j : Nat), rfl, (off rows j : Nat), rfl, .int (off rows j : Nat), rfl, .ref rA, rfl, rA, _, rfl, .inr ((TupK.of sc).sq hRow), _, _, rfl, rfl, (off rows j : Int) + ((row.map V.int).length : Nat), rfl, l, us, rfl, SqL.of (sc _ _ hl), fun L1 nL1 => ?_⟩
      rw [List.length_map, show (off rows j : Int) + (row.length : Nat) = ((off rows j + row.length : Nat) : Int) by omega, cut_nat us (by omega) (by omega), show off rows j + row.length - off rows j = row.length by omega]
      have s1 := sameNew (o := .lst ((us.drop (off rows j)).take row.length)) nL1
      refine ⟨L1, _, rfl, .inl ⟨SqL.of upd_same, fun T1 nT1 => ?_⟩⟩
      have s2 := s1.trans (sameNew (o := .tup ((us.drop (off rows j)).take row.length)) nT1)
      have eD2 := s2 _ _ eD
      refine ⟨D, _, _, rfl, rfl, eD2, small (by omega), ?_⟩
      refine ⟨_, rfl, .ref rA, rfl, rA, _, rfl, .inr ((TupK.put eD2).sq ((TupK.of s2).sq ((TupK.of sc).sq hRow))), _, _, rfl, rfl, ?_⟩
      refine ⟨some (.ref rA), ts ++ [.ref T1], ?_, fun b o e => by rw [upd_ne (ne_of_none e nD)]; exact s2 _ _ (sc _ _ e), upd_same, ?_, by rw [List.length_append, lts]; rfl⟩
      · rw [List.length_map, off_succ hrow]; rfl
      · have hT : Dp K (upd (upd Hc L1 (.lst ((us.drop (off rows j)).take row.length))) T1 (.tup ((us.drop (off rows j)).take row.length))) (.ref T1) (dAsg ((vals.drop (off rows j)).take row.length)) := by
          refine .tup (SqT.of upd_same) ?_
          have := (DpAll.sub (off rows j) row.length hus)
          rw [← List.map_drop, ← List.map_take] at this
          exact (TupK.of (sc.trans s2)).dpAll _ _ (to_rows _) this
        rw [take_snoc (gather_at hrow), List.map_append]
        exact DpAll.snoc ((TupK.put eD2).dpAll _ _ (to_tabs _) ((TupK.of s2).dpAll _ _ (to_tabs _) hts)) ((TupK.put eD2).dp _ _ (to_dAsg _) hT)
    · rintro σ Hc ⟨y4, ts, rfl, sc, eD, hts, lts⟩
      rw [las, List.take_of_length_le (by rw [gather_len]; exact Nat.le_refl _)] at hts
      refine ⟨.ref D, rfl, D, _, rfl, .inl ⟨SqL.of eD, fun T nT => ?_⟩⟩
      exact q _ T (sc.trans (sameNew nT)) (.tup (SqT.of upd_same) ((TupK.of (sameNew nT)).dpAll _ _ (to_tabs _) hts))
set_option maxHeartbeats 8000000 in
theorem ok_MC {f fVT fGT fTQ fCS : Addr} {fd fdVT fdGT fdTQ fdCS : FuncData} {cT : Addr} (T : TTx K mg cT) (F : Fun K "margin_certificate" "margin_certificate" sMC f fd)
    (FVT : Fun K "vote_transport" "vote_transport" sVT fVT fdVT) (bVT : Binds K fdVT ["instance", "assignment"] []) (gVT : mg "vote_transport" = some (.ref fVT)) (GVT : FnOk P w K mg base CX0 4 fVT fdVT ["instance", "assignment"] (spVT K cT))
    (FGT : Fun K "gathered_tables" "gathered_tables" sGT fGT fdGT) (bGT : Binds K fdGT ["assignment", "rows"] []) (gGT : mg "gathered_tables" = some (.ref fGT)) (GGT : FnOk P w K mg base CX0 1 fGT fdGT ["assignment", "rows"] (spGT K))
    (FTQ : Fun K "column_prices" "Transport.column_prices" sTQ fTQ fdTQ) (bTQ : Binds K fdTQ ["self", "highest"] []) (mTQ : Meth K cT "column_prices" fTQ) (GTQ : FnOk P w K mg base CX0 2 fTQ fdTQ ["self", "highest"] (spTQ cT))
    (FCS : Fun K "change_surplus" "change_surplus" sCS fCS fdCS) (bCS : Binds K fdCS ["change"] []) (gCS : mg "change_surplus" = some (.ref fCS)) (GCS : FnOk P w K mg base CX0 2 fCS fdCS ["change"] (spSur K))
    {uHIGHEST : Value} (vHIGHEST : mg "HIGHEST" = some uHIGHEST) (rHIGHEST : RelV (.int 2) uHIGHEST)
    (m_tuple : mg "tuple" = none) :
    FnOk P w K mg base CX0 5 f fd ["instance", "assignment"] (spMC K) := by
  refine F.ok scMC (fun vs H Q E h => ?_) (fun cdv A outer s H vs Q E hr h => ?_)
  · obtain ⟨i, a, cs, gs, rows, rfl, _⟩ := h; rfl
  · obtain ⟨i, a, cs, gs, rows, rfl, hI, hA, hM, hZ, q⟩ := h
    refine ⟨_, pss_cons (ps_set (i := 2) scMC.nd rfl (.inl rfl) (pe_call GVT (hr.mono (by omega)) (by rfl) gVT FVT.kp bVT .nil pass0 (pa_cons (pv 0) (pa_cons (pv 1) pa_nil))))
      (pss_cons (ps_set (i := 3) scMC.nd rfl (.inl rfl) (pe_call GGT (hr.mono (by omega)) (by rfl) gGT FGT.kp bGT .nil pass0 (pa_cons (pv 1) (pa_cons (pe_lc (own := [("numbers", 5)]) (g := gName 5) (tt := tYes) (te := tCB rTupVals (tCons (tBM0 K "dict" rValsK (tVar 5)) tNil)) rfl scMC.nd (pi_list (pe_fld (pv 2) rfl)) (blkOk_by (N := ["instance", "assignment", "transport", "change", "prices", "numbers"]) (sc := defScope sMC) (by decide +kernel)) (fun _ _ _ _ _ => pg_name (i := 5) scMC.nd rfl (.inl rfl)) (fun _ _ _ _ _ => pts_nil) (fun _ _ _ _ _ => pe_callTy (call_tupVals rfl) (by rfl) m_tuple (by decide +kernel) (pa_cons (pe_bm0 PySem.F.plainAttrs_dict PySem.F.slot_dict_values PySem.F.type_dict_values mt_valuesK (pv 5)) pa_nil))) pa_nil))))
      (pss_cons (ps_set (i := 4) scMC.nd rfl (.inl rfl) (pe_callTy call_tupQ (by rfl) m_tuple (by decide +kernel) (pa_cons (pe_slice sl_list (pe_meth (pv 2) T.cl mTQ GTQ (hr.mono (by omega)) bTQ .nil pass0 (pa_cons (pe_glob (by rfl) vHIGHEST rHIGHEST) pa_nil)) po_none (po_some (pe_un un_neg (pe_int)))) pa_nil)))
      (pss_one (ps_ret (pe_tup (pa_cons (pe_call GCS (hr.mono (by omega)) (by rfl) gCS FCS.kp bCS .nil pass0 (pa_cons (pv 3) pa_nil)) (pa_cons (pv 3) (pa_cons (pv 4) pa_nil)))))))), ?_⟩
    have hc6 := hZ.c6
    have hg10 := hZ.g10
    have hrl := hM.rl
    have three : (3 : Nat) ≤ sizeLine := by decide
    refine ⟨.ref i, rfl, .ref a, rfl, i, a, cs, gs, rows, rfl, hI, hA, hM, hZ, fun H1 x r c p cd pd t s1 hT hR hRu => ?_⟩
    obtain ⟨dx, ob⟩ := hT.ob
    have tot : t.plan.length = off rows rows.length := by rw [hR.pl, items_len _ hrl]
    have offle : off rows rows.length ≤ 70 := by
      have h2 : ∀ (rows : List (List Int)), (∀ r ∈ rows, r.length ≤ 7) → off rows rows.length ≤ 7 * rows.length := fun rows => by
        induction rows with
        | nil => intro _; exact Nat.le_refl _
        | cons r rows ih =>
          intro h
          have := ih fun r' hr => h r' (List.mem_cons_of_mem _ hr)
          have := h r List.mem_cons_self
          show r.length + off rows rows.length ≤ 7 * (rows.length + 1)
          omega
      have := h2 rows fun r hr => by
        obtain ⟨k, e⟩ := List.getElem?_of_mem hr
        have hk := (List.getElem?_eq_some_iff.mp e).1
        have hkg : k < gs.length := by omega
        have eg : gs[k]? = some gs[k] := List.getElem?_eq_getElem hkg
        have := (hM.sh k _ r eg e).1
        have := hZ.ps6 _ (List.getElem_mem hkg)
        omega
      omega
    have rlen : t.room.length = cs.length + 1 := by rw [hR.rl]; show (cs ++ [_]).length = _; rw [List.length_append]; rfl
    have hT' := hT
    refine ⟨.ref a, rfl, .ref x, rfl, x, cT, dx, _, _, rfl, ob, T.cl, T.nP, fT_plan _ _ _, p, rfl, ⟨_, SqL.of hT.pl⟩, fun D nD => lc_it (walk_list (K := K) (a := p) (xs := pd.map V.ref)) (LcR (fun H v (P : Tr.Row) => Dp K H v (dI (valsR P))) H1 D t.plan (fun P => some P)) (.start nD) (fun m Hm _ h => SqL.of (h.1 _ _ hT.pl)) ?_ ?_⟩
    · rintro k y Hz Hc hk hL ⟨rfl, hy⟩
      have hy : (pd.map V.ref)[k]? = some y := hy
      rw [List.getElem?_map] at hy
      obtain ⟨pa, hpa, rfl⟩ := Option.map_eq_some_iff.mp hy
      have hkp : k < t.plan.length := by rw [← hT.lp]; exact (List.getElem?_eq_some_iff.mp hpa).1
      have eP : t.plan[k]? = some t.plan[k] := List.getElem?_eq_getElem hkp
      generalize t.plan[k] = P at eP
      have hPd := hL.1 _ _ (hT.pds k pa P hpa eP)
      refine ⟨rfl, .ref pa, rfl, .inr (.inr (.inl ⟨rfl, .inl ⟨_, hPd⟩⟩)), pa, _, rfl, rfl, hPd, fun p1 n1 => ?_⟩
      have s1' := sameNew (o := viewO "dict_values" p1 pa) n1
      refine ⟨p1, pa, _, rfl, upd_same, s1' _ _ hPd, fun l2 n2 => ?_⟩
      refine hL.yes (fun H H' v b tk h => tk.dp _ _ (to_dI _) h) nD (s1'.trans (sameNew n2)) eP rfl ?_ (by omega)
      refine dI_sq (SqT.of ?_)
      rw [upd_same]
      simp only [dk, dkW, valsR, List.map_map]; rfl
    rintro H2 hL
    obtain ⟨us, eD, hus⟩ := hL.done (by rw [List.length_map, hT.lp]; exact Nat.le_refl _)
    rw [List.filterMap_some] at hus
    have hus := rl_dp (f := fun P : Tr.Row => dI (valsR P)) hus
    rw [show t.plan.map (fun P => dI (valsR P)) = (t.plan.map valsR).map dI by rw [List.map_map]; rfl] at hus
    have s2 := s1.trans hL.1
    have hT2 := hT.same hL.1
    have hA2 := (TupK.of s2).dp _ _ (to_dAsg _) hA
    refine ⟨a, D, rows, t.plan.map valsR, us, rfl, hA2, eD, hus, by rw [List.length_map]; exact tot, by omega, by rw [List.length_map]; omega, fun r hr => ?_, fun H3 ch s3 hCh => ?_⟩
    · obtain ⟨k, e⟩ := List.getElem?_of_mem hr
      have hk := (List.getElem?_eq_some_iff.mp e).1
      have hkg : k < gs.length := by omega
      have eg : gs[k]? = some gs[k] := List.getElem?_eq_getElem hkg
      have := (hM.sh k _ r eg e).1
      have := hZ.ps6 _ (List.getElem_mem hkg)
      omega
    have hCh : Dp K H3 (.ref ch) (dTabs (certTabs rows t)) := hCh
    have hT3 := hT2.same s3
    obtain ⟨dx3, ob3⟩ := hT3.ob
    refine ⟨.ref x, rfl, x, dx3, _, rfl, ob3, fT_no _ _ _ (by decide +kernel) (by decide +kernel) (by decide +kernel), x, r, c, p, cd, pd, t, 2, rfl, hT3, hR.wf, by omega, by omega, fun H4 ql s4 eQ => ?_⟩
    have lq : (Tr.prices t 2).length = cs.length + 1 := by unfold Tr.prices; rw [Tr.qN_len, rlen]
    refine ⟨1, rfl, _, rfl, ql, _, rfl, SqL.of eQ, fun q2 nq2 => ?_⟩
    have s5 := sameNew (o := .lst (cutV ((Tr.prices t 2).map V.int) none (some (-1)))) nq2
    refine ⟨q2, _, rfl, .inl ⟨SqL.of upd_same, fun q3 nq3 => ?_⟩⟩
    have s6 := s5.trans (sameNew (o := .tup (cutV ((Tr.prices t 2).map V.int) none (some (-1)))) nq3)
    have eq3 : SqT K (upd (upd H4 q2 (.lst (cutV ((Tr.prices t 2).map V.int) none (some (-1))))) q3 (.tup (cutV ((Tr.prices t 2).map V.int) none (some (-1))))) q3 ((certPr t).map V.int) := by
      refine SqT.of ?_
      rw [upd_same, cut_last _ (by rw [List.length_map]; omega)]
      unfold certPr
      rw [List.map_dropLast]
    have hCh6 := (TupK.of (s4.trans s6)).dp _ _ (to_dTabs _) hCh
    generalize upd (upd H4 q2 (.lst (cutV ((Tr.prices t 2).map V.int) none (some (-1))))) q3 (.tup (cutV ((Tr.prices t 2).map V.int) none (some (-1)))) = H6 at s6 eq3 hCh6 ⊢
    have tb := cert_tb hM hR
    refine ⟨.ref ch, rfl, ch, certTabs rows t, rfl, hCh6, by rw [tb.tl]; omega, fun tt htt => ?_, fun H7 s7 => ?_⟩
    · obtain ⟨k, e⟩ := List.getElem?_of_mem htt
      have hk := (List.getElem?_eq_some_iff.mp e).1
      rw [tb.tl] at hk
      have tk := tb.tb k hk
      have e1 : (certTabs rows t).getD k [] = tt := by rw [List.getD_eq_getElem?_getD, e]; rfl
      rw [e1] at tk
      have h6 : (gs.getD k ([], 0)).1.length ≤ 6 := by
        rw [List.getD_eq_getElem?_getD, List.getElem?_eq_getElem hk]
        exact hZ.ps6 _ (List.getElem_mem hk)
      refine ⟨by rw [tk.tl]; omega, by rw [tk.tl]; omega, fun r hr => ?_⟩
      obtain ⟨s', es⟩ := List.getElem?_of_mem hr
      have hs' := (List.getElem?_eq_some_iff.mp es).1
      rw [tk.tl] at hs'
      have := tk.cl s' hs'
      rw [show tt.getD s' [] = r by rw [List.getD_eq_getElem?_getD, es]; rfl] at this
      rw [this, tk.tl]
    refine ⟨.ref ch, rfl, .ref q3, rfl, three, fun R nR => ?_⟩
    have s8 := s7.trans (sameNew (o := .tup [.int (votesOf (certTabs rows t)).sum, .ref ch, .ref q3]) nR)
    refine q _ R t ((((s2.trans s3).trans s4).trans s6).trans s8) hR hRu ?_
    exact .tup (SqT.of upd_same) (.cons (.int _) (.cons ((TupK.of s8).dp _ _ (to_dTabs _) hCh6) (.cons (dI_sq ((TupK.of s8).sq eq3)) .nil)))
end
end Pv

namespace Pv
open PySem PySem.Spec PyProof.Rows L2
abbrev sIP : Stmt := topS 29
theorem scIP : FnScope ["instance", "value", "price"] ["instance", "value"] (defScope sIP) := ⟨rfl, rfl, rfl, by decide +kernel, rfl, by decide +kernel, by decide +kernel⟩
abbrev sMH : Stmt := topS 28
theorem scMH : FnScope ["instance", "assignment", "value", "number", "change", "prices"] ["instance", "assignment", "value"] (defScope sMH) := ⟨rfl, rfl, rfl, by decide +kernel, rfl, by decide +kernel, by decide +kernel⟩

def pricesD (n : Nat) : PyData → Bool
  | .tuple ds => decide (ds.length = n) && ds.all (withinD 0 2)
  | _ => false
def numD : PyData → Int
  | .int i => i
  | _ => 0
def tabsD : PyData → List (List (List Int))
  | .tuple ts => ts.map tabRows
  | _ => []
def marginD (cs : List Int) (gs : List Gp) (rows : List (List Int)) : PyData → Bool
  | .tuple [a, b, c] => wholeD a && (changeD cs gs rows b && (pricesD cs.length c && (decide ((votesOf (tabsD b)).sum = numD a) && decide (limI cs gs rows (rowD c) gs.length = numD a))))
  | _ => false
theorem whole_int {d : PyData} (h : wholeD d = true) : ∃ i, d = .int i := by
  cases d with
  | int i => exact ⟨i, rfl⟩
  | bool b => simp [wholeD, isBool] at h
  | _ => simp [wholeD, isInt] at h
theorem marginD_len {cs : List Int} {gs : List Gp} {rows : List (List Int)} {ds : List PyData} (h : ds.length ≠ 3) : marginD cs gs rows (.tuple ds) = false := by
  match ds, h with
  | [], _ => rfl
  | [_], _ => rfl
  | [_, _], _ => rfl
  | [_, _, _], h => exact absurd rfl h
  | _ :: _ :: _ :: _ :: _, _ => rfl
theorem pricesD_row {n : Nat} {d : PyData} (h : pricesD n d = true) : d = dI (rowD d) ∧ (rowD d).length = n ∧ ∀ x ∈ rowD d, 0 ≤ x ∧ x ≤ 2 := by
  cases d with
  | tuple ds =>
    have h' : decide (ds.length = n) = true ∧ ds.all (withinD 0 2) = true := by simpa only [pricesD, Bool.and_eq_true] using h
    obtain ⟨row, e, hr⟩ := within_ints h'.2
    have hl := of_decide_eq_true h'.1
    subst e
    have er : rowD (.tuple (row.map PyData.int)) = row := by simp [rowD, intsOf, intsAll_ints]
    rw [er]
    refine ⟨rfl, by rw [List.length_map] at hl; exact hl, fun x hx => ?_⟩
    have := List.all_eq_true.mp hr x hx
    exact of_decide_eq_true this
  | _ => simp [pricesD] at h
theorem changeD_tabs {cs : List Int} {gs : List Gp} {asg : List (List Int)} {d : PyData} (h : changeD cs gs asg d = true) (ha : ∀ r ∈ asg, 1 ≤ r.length ∧ r.length ≤ 7) : d = dTabs (tabsD d) ∧ (tabsD d).length = asg.length ∧ ∀ t ∈ tabsD d, Sqr t := by
  cases d with
  | tuple ts =>
    have h' : decide (ts.length = asg.length) = true ∧ (asg.zip ts).all (fun q => tableD q.1 q.2) = true ∧ isAD cs gs (dAsg ((ts.map tabRows).map colSum)) = true := by simpa only [changeD, Bool.and_eq_true] using h
    have hl := of_decide_eq_true h'.1
    refine ⟨?_, ?_, tables_sqr hl h'.2.1 ha⟩
    · show PyData.tuple ts = .tuple ((ts.map tabRows).map dAsg)
      rw [← tables_rows hl h'.2.1]
    · show (ts.map tabRows).length = _
      rw [List.length_map]; exact hl
  | _ => simp [changeD] at h
def spIP (K : PySem.W.Frag) : Sp := fun vs H Q _ => ∃ (st r i : Addr) (v : V) (cs : List Int) (gs : List Gp) (d : PyData), vs = [.ref i, v] ∧ Dp K H (.ref i) (dInst cs gs) ∧ Dq K st r H v d ∧ cs.length ≤ 900 ∧ ∀ H', Same H H' → Q (.bl (pricesD cs.length d)) H'
def spMH (K : PySem.W.Frag) : Sp := fun vs H Q _ => ∃ (st r i a : Addr) (v : V) (cs : List Int) (gs : List Gp) (rows : List (List Int)) (d : PyData), vs = [.ref i, .ref a, v] ∧ Dp K H (.ref i) (dInst cs gs) ∧ Dp K H (.ref a) (dAsg rows) ∧ Dq K st r H v d ∧ InsOk cs gs ∧ Shp gs rows ∧ Bd rows ∧
  ∀ H', Same H H' → Q (.bl (marginD cs gs rows d)) H'
section
variable {P : Program} {w : World} {K : PySem.W.Frag} {mg : Str → Option Value} {base : Heap}
set_option maxHeartbeats 4000000 in
theorem ok_IP {f fTo fWi : Addr} {fd fdTo fdWi : FuncData} (F : Fun K "is_prices" "is_prices" sIP f fd)
    (FTo : Fun K "is_tuple_of" "is_tuple_of" sTupOf fTo fdTo) (bTo : Binds K fdTo ["value", "least", "most"] []) (gTo : mg "is_tuple_of" = some (.ref fTo)) (GTo : FnOk P w K mg base CX0 1 fTo fdTo ["value", "least", "most"] (spTupOf K))
    (FWi : Fun K "is_within" "is_within" sWithin fWi fdWi) (bWi : Binds K fdWi ["value", "least", "most"] []) (gWi : mg "is_within" = some (.ref fWi)) (GWi : FnOk P w K mg base CX0 2 fWi fdWi ["value", "least", "most"] (spWithin K))
    {uHIGHEST : Value} (vHIGHEST : mg "HIGHEST" = some uHIGHEST) (rHIGHEST : RelV (.int 2) uHIGHEST)
    (m_len : mg "len" = none) (m_all : mg "all" = none) :
    FnOk P w K mg base CX0 3 f fd ["instance", "value"] (spIP K) := by
  refine F.ok scIP (fun vs H Q E h => ?_) (fun cdv A outer s H vs Q E hr h => ?_)
  · obtain ⟨st, r, i, v, cs, gs, d, rfl, _⟩ := h; rfl
  · obtain ⟨st, r, i, v, cs, gs, d, rfl, hI, hd, hc, q⟩ := h
    refine ⟨_, pss_cons (ps_if (pt_not (pt_val (pe_call GTo (hr.mono (by omega)) (by rfl) gTo FTo.kp bTo .nil pass0 (pa_cons (pv 1) (pa_cons (pe_callB call_lenQ (by rfl) m_len PySem.boot_len (pa_cons (pe_ix ix_tup (pv 0) (pe_int) (fun _ _ => rfl)) pa_nil)) (pa_cons (pe_callB call_lenQ (by rfl) m_len PySem.boot_len (pa_cons (pe_ix ix_tup (pv 0) (pe_int) (fun _ _ => rfl)) pa_nil)) pa_nil))))))
        (pss_one (ps_ret (pe_bl))) pss_nil)
      (pss_one (ps_ret (pe_callB (cr_all rfl) (by rfl) m_all (by decide +kernel) (pa_cons (pe_lc (own := [("price", 2)]) (g := gName 2) (tt := tYes) (te := tCall (spWithin K) [] E0 (tCons (tVar 2) (tCons (tC (.int 0)) (tCons (tC (.int 2)) tNil)))) rfl scIP.nd (pi_tup (pv 1)) (blkOk_by (N := ["instance", "value", "price"]) (sc := defScope sIP) (by decide +kernel)) (fun _ _ _ _ _ => pg_name (i := 2) scIP.nd rfl (.inl rfl)) (fun _ _ _ _ _ => pts_nil) (fun _ _ _ _ _ => pe_call GWi (hr.mono (by omega)) (by rfl) gWi FWi.kp bWi .nil pass0 (pa_cons (pv 2) (pa_cons (pe_int) (pa_cons (pe_glob (by rfl) vHIGHEST rHIGHEST) pa_nil))))) pa_nil)))), ?_⟩
    obtain ⟨_, ca, ga, xs, e, hi, hc', hg', hgs⟩ := inst_open hI
    cases e
    have ix : ∀ {H' : Hp} (_ : Same H H'), H' = H' := fun _ => rfl
    refine ⟨v, rfl, .ref i, rfl, i, _, 0, .ref ca, rfl, rfl, hi, atI_nat (j := 0) rfl, ca, _, rfl, .inr hc', .ref i, rfl, i, _, 0, .ref ca, rfl, rfl, hi, atI_nat (j := 0) rfl, ca, _, rfl, .inr hc', st, r, v, d, _, _, rfl, hd, ?_⟩
    rw [List.length_map]
    cases hb : tupOfD (cs.length : Int) (cs.length : Int) d with
    | false =>
      refine ⟨_, rfl, iteT ?_⟩
      have e : pricesD cs.length d = false := by
        cases d with
        | tuple ds =>
          have h1 := of_decide_eq_false hb
          have : ¬ ds.length = cs.length := by omega
          simp [pricesD, this]
        | _ => rfl
      have := q H (Same.refl H)
      rw [e] at this
      exact this
    | true =>
    refine ⟨_, rfl, iteF ?_⟩
    cases d with
    | none | bool _ | int _ | str _ | list _ | dict _ => simp [tupOfD] at hb
    | tuple ds =>
    cases hd with
    | @tup va ys _ hV ha =>
    have ly := DqAll.len ha
    have hdl : ds.length = cs.length := by have := of_decide_eq_true hb; omega
    refine ⟨.ref va, rfl, va, rfl, ⟨_, hV⟩, fun D nD => lc_tup (xs := ys)
      (fun i H2 => Same H H2 ∧ H2 D = some (.lst (((ds.take i).map (withinD 0 2)).map V.bl))) ⟨sameNew nD, upd_same⟩ (fun i H2 _ h2 => (TupK.of h2.1).sq hV) ?_ ?_⟩
    · rintro i x H2 hx ⟨s2, e2⟩
      obtain ⟨dx, hdx, hxd⟩ := DqAll.at ha hx
      have hil : i < ds.length := (List.getElem?_eq_some_iff.mp hdx).1
      refine ⟨rfl, x, rfl, st, r, x, dx, 0, 2, rfl, hxd.lasts (.of s2), _, e2, ?_, samePut s2 nD, ?_⟩
      · rw [List.length_map, List.length_map, List.length_take]; exact small (by omega)
      · rw [upd_same, List.take_add_one, hdx]; simp
    · rintro H2 ⟨s2, e2⟩
      rw [ly, List.take_length] at e2
      refine ⟨D, _, rfl, SqL.of e2, ?_⟩
      have e : pricesD cs.length (.tuple ds) = (ds.map (withinD 0 2)).all id := by
        rw [List.all_map]
        simp [pricesD, hdl]
      have := q H2 s2
      rw [e] at this
      exact this
set_option maxHeartbeats 8000000 in
theorem ok_MH {f fTo fWh fIC fIP fCS fPl : Addr} {fd fdTo fdWh fdIC fdIP fdCS fdPl : FuncData} (F : Fun K "margin_holds" "margin_holds" sMH f fd)
    (FTo : Fun K "is_tuple_of" "is_tuple_of" sTupOf fTo fdTo) (bTo : Binds K fdTo ["value", "least", "most"] []) (gTo : mg "is_tuple_of" = some (.ref fTo)) (GTo : FnOk P w K mg base CX0 1 fTo fdTo ["value", "least", "most"] (spTupOf K))
    (FWh : Fun K "is_whole" "is_whole" sWhole fWh fdWh) (bWh : Binds K fdWh ["value"] []) (gWh : mg "is_whole" = some (.ref fWh)) (GWh : FnOk P w K mg base CX0 1 fWh fdWh ["value"] (spWhole K))
    (FIC : Fun K "is_change" "is_change" sIC fIC fdIC) (bIC : Binds K fdIC ["instance", "assignment", "value"] []) (gIC : mg "is_change" = some (.ref fIC)) (GIC : FnOk P w K mg base CX0 5 fIC fdIC ["instance", "assignment", "value"] (spIsC K))
    (FIP : Fun K "is_prices" "is_prices" sIP fIP fdIP) (bIP : Binds K fdIP ["instance", "value"] []) (gIP : mg "is_prices" = some (.ref fIP)) (GIP : FnOk P w K mg base CX0 3 fIP fdIP ["instance", "value"] (spIP K))
    (FCS : Fun K "change_surplus" "change_surplus" sCS fCS fdCS) (bCS : Binds K fdCS ["change"] []) (gCS : mg "change_surplus" = some (.ref fCS)) (GCS : FnOk P w K mg base CX0 2 fCS fdCS ["change"] (spSur K))
    (FPl : Fun K "price_limit" "price_limit" sPl fPl fdPl) (bPl : Binds K fdPl ["instance", "assignment", "prices"] []) (gPl : mg "price_limit" = some (.ref fPl)) (GPl : FnOk P w K mg base CX0 3 fPl fdPl ["instance", "assignment", "prices"] (spLim K))
     :
    FnOk P w K mg base CX0 6 f fd ["instance", "assignment", "value"] (spMH K) := by
  refine F.ok scMH (fun vs H Q E h => ?_) (fun cdv A outer s H vs Q E hr h => ?_)
  · obtain ⟨st, r, i, a, v, cs, gs, rows, d, rfl, _⟩ := h; rfl
  · obtain ⟨st, r, i, a, v, cs, gs, rows, d, rfl, hI, hA, hd, ok, hS, hB, q⟩ := h
    refine ⟨_, pss_cons (ps_if (pt_not (pt_val (pe_call GTo (hr.mono (by omega)) (by rfl) gTo FTo.kp bTo .nil pass0 (pa_cons (pv 2) (pa_cons (pe_int) (pa_cons (pe_int) pa_nil))))))
        (pss_one (ps_ret (pe_bl))) pss_nil)
      (pss_cons (ps_asg (pv 2) (pg_tup rfl (pgs_cons (pg_name (i := 3) scMH.nd rfl (.inl rfl)) (pgs_cons (pg_name (i := 4) scMH.nd rfl (.inl rfl)) (pgs_cons (pg_name (i := 5) scMH.nd rfl (.inl rfl)) pgs_nil)))))
      (pss_cons (ps_if (pt_not (PW.pt (pw_and (pt_val (pe_call GWh (hr.mono (by omega)) (by rfl) gWh FWh.kp bWh .nil pass0 (pa_cons (pv 3) pa_nil))) (pw_and (pt_val (pe_call GIC (hr.mono (by omega)) (by rfl) gIC FIC.kp bIC .nil pass0 (pa_cons (pv 0) (pa_cons (pv 1) (pa_cons (pv 4) pa_nil))))) (pw_and1 (pt_val (pe_call GIP (hr.mono (by omega)) (by rfl) gIP FIP.kp bIP .nil pass0 (pa_cons (pv 0) (pa_cons (pv 5) pa_nil)))))))))
        (pss_one (ps_ret (pe_bl))) pss_nil)
      (pss_one (ps_ret (pe_and (pe_cmpR op_eq (pe_call GCS (hr.mono (by omega)) (by rfl) gCS FCS.kp bCS .nil pass0 (pa_cons (pv 4) pa_nil)) (pv 3) (nomark _)) (pe_one (pe_cmpR op_eq (pe_call GPl (hr.mono (by omega)) (by rfl) gPl FPl.kp bPl .nil pass0 (pa_cons (pv 0) (pa_cons (pv 1) (pa_cons (pv 5) pa_nil)))) (pv 3) (nomark _)))))))), ?_⟩
    have hc6 := ok.c6
    have hg10 := ok.g10
    have hin : InR cs.length gs := fun g hg => ⟨by have := (ok.gp g hg).1; omega, (ok.gp g hg).2.1⟩
    have h900 : ∀ g ∈ gs, g.1.length ≤ 900 := fun g hg => by have := (ok.gp g hg).1; omega
    have hrl := hS.1
    have h7 : ∀ r ∈ rows, 1 ≤ r.length ∧ r.length ≤ 7 := fun rw' hr => by
      obtain ⟨k, e⟩ := List.getElem?_of_mem hr
      have hk := (List.getElem?_eq_some_iff.mp e).1
      have hkg : k < gs.length := by omega
      have := hS.2 k _ rw' (List.getElem?_eq_getElem hkg) e
      have := (ok.gp _ (List.getElem_mem hkg)).1
      omega
    refine ⟨v, rfl, st, r, v, d, 3, 3, rfl, hd, ?_⟩
    cases hb : tupOfD 3 3 d with
    | false =>
      refine ⟨_, rfl, iteT ?_⟩
      have e : marginD cs gs rows d = false := by
        cases d with
        | tuple ds =>
          have h1 := of_decide_eq_false hb
          exact marginD_len (by omega)
        | _ => rfl
      have := q H (Same.refl H)
      rw [e] at this
      exact this
    | true =>
    refine ⟨_, rfl, iteF ?_⟩
    cases d with
    | none | bool _ | int _ | str _ | list _ | dict _ => simp [tupOfD] at hb
    | tuple ds =>
    cases hd with
    | @tup va ys _ hV ha =>
    have ly := DqAll.len ha
    have hdl : ds.length = 3 := by have := of_decide_eq_true hb; omega
    obtain ⟨da, db, dc, rfl⟩ : ∃ da db dc, ds = [da, db, dc] := by
      match ds, hdl with
      | [x, y, z], _ => exact ⟨x, y, z, rfl⟩
    cases ha with
    | cons ha1 ha2 =>
    cases ha2 with
    | cons hb1 hb2 =>
    cases hb2 with
    | cons hc1 hc2 =>
    cases hc2 with
    | nil =>
    rename_i v1 v2 v3
    have sh : ∀ {x : Bool}, marginD cs gs rows (.tuple [da, db, dc]) = x → ∀ H', Same H H' → Q (.bl x) H' := fun e H' s => by have := q H' s; rw [e] at this; exact this
    have e0 : marginD cs gs rows (.tuple [da, db, dc]) = (wholeD da && (changeD cs gs rows db && (pricesD cs.length dc && (decide ((votesOf (tabsD db)).sum = numD da) && decide (limI cs gs rows (rowD dc) gs.length = numD da))))) := rfl
    refine ⟨.ref va, rfl, va, _, rfl, hV, rfl, _, _, rfl, _, _, rfl, _, _, rfl, rfl, ?_⟩
    refine ⟨v1, rfl, st, r, v1, da, rfl, ha1, _, rfl, ite2 (fun h1 => ?_) (fun h1 => ?_)⟩
    rotate_left
    · refine iteT (sh ?_ H (Same.refl H))
      rw [e0, Bool.eq_false_iff.mpr h1, Bool.false_and]
    refine ⟨.ref i, rfl, .ref a, rfl, v2, rfl, st, r, i, a, v2, cs, gs, rows, db, rfl, hI, hA, hb1, by omega, by omega, hin, h900, by omega, h7, fun H1 s1 => ⟨_, rfl, ite2 (fun h2 => ?_) (fun h2 => ?_)⟩⟩
    rotate_left
    · refine iteT (sh ?_ H1 s1)
      rw [e0, Bool.eq_false_iff.mpr h2, Bool.false_and, Bool.and_false]
    refine ⟨.ref i, rfl, v3, rfl, st, r, i, v3, cs, gs, dc, rfl, (TupK.of s1).dp _ _ (to_dInst _ _) hI, hc1.lasts (.of s1), by omega, fun H2 s2 => ⟨_, rfl, ?_⟩⟩
    have s02 := s1.trans s2
    cases h3 : pricesD cs.length dc with
    | false =>
      refine iteT (sh ?_ H2 s02)
      rw [e0, h3, Bool.false_and, Bool.and_false, Bool.and_false]
    | true =>
    refine iteF ?_
    obtain ⟨n, rfl⟩ := whole_int h1
    obtain ⟨t1, t2, t3⟩ := changeD_tabs h2 h7
    obtain ⟨p1, p2, p3⟩ := pricesD_row h3
    cases ha1
    have e1 : marginD cs gs rows (.tuple [.int n, db, dc]) = (decide ((votesOf (tabsD db)).sum = n) && decide (limI cs gs rows (rowD dc) gs.length = n)) := by
      rw [e0, h1, h2, h3]; rfl
    have hdb : Dp K H2 v2 (dTabs (tabsD db)) := by
      rw [t1] at hb1
      exact (TupK.of s02).dp _ _ (to_dTabs _) (Dq.to_dp (to_dTabs _) hb1)
    have hdc : Dp K H2 v3 (dI (rowD dc)) := by
      rw [p1] at hc1
      exact (TupK.of s02).dp _ _ (to_dI _) (Dq.to_dp (to_dI _) hc1)
    obtain ⟨ta, rfl⟩ : ∃ ta, v2 = .ref ta := by cases hdb; exact ⟨_, rfl⟩
    obtain ⟨pa, rfl, hP⟩ := dI_ref hdc
    refine ⟨.ref ta, rfl, ta, tabsD db, rfl, hdb, by omega, t3, fun H3 s3 => ⟨.int n, rfl, rfl, _, rfl, ite2 (fun h4 => ?_) (fun h4 => ?_)⟩⟩
    · have s03 := s02.trans s3
      refine ⟨.ref i, rfl, .ref a, rfl, .ref pa, rfl, i, a, pa, cs, gs, rows, rowD dc, rfl, (TupK.of s03).dp _ _ (to_dInst _ _) hI, ok, (TupK.of s03).dp _ _ (to_dAsg _) hA, hS, hB, (TupK.of s3).sq hP, p2, fun H4 s4 => ⟨.int n, rfl, rfl, ?_⟩⟩
      have hv : (votesOf (tabsD db)).sum = n := by simpa using h4
      have := sh e1 H4 (s03.trans s4)
      rw [decide_eq_true hv, Bool.true_and] at this
      have e5 : decide (V.int (limI cs gs rows (rowD dc) gs.length) = V.int n) = decide (limI cs gs rows (rowD dc) gs.length = n) := by simp
      rw [e5]; exact this
    · have hv : ¬ (votesOf (tabsD db)).sum = n := by simpa using h4
      have := sh e1 H3 (s02.trans s3)
      rw [decide_eq_false hv, Bool.false_and] at this
      exact this
end
end Pv

namespace Pv
open PySem PySem.Spec PyProof.Rows L2
theorem rowD_dI (r : List Int) : rowD (dI r) = r := by simp [rowD, dI, intsOf, intsAll_ints]
theorem tabRows_dAsg (t : List (List Int)) : tabRows (dAsg t) = t := by
  show (t.map dI).map rowD = t
  rw [List.map_map]
  conv => rhs; rw [← List.map_id t]
  exact List.map_congr_left fun r _ => rowD_dI r
theorem tabsD_dTabs (t : List (List (List Int))) : tabsD (dTabs t) = t := by
  show (t.map dAsg).map tabRows = t
  rw [List.map_map]
  conv => rhs; rw [← List.map_id t]
  exact List.map_congr_left fun r _ => tabRows_dAsg r
theorem mem_le_sum : ∀ {l : List Int}, (∀ x ∈ l, 0 ≤ x) → ∀ x ∈ l, x ≤ l.sum
  | [], _, x, h => by cases h
  | a :: l, h0, x, h => by
    have hs : ∀ l : List Int, (∀ x ∈ l, 0 ≤ x) → 0 ≤ l.sum := fun l => by
      induction l with
      | nil => intro _; exact Int.le_refl _
      | cons a l ih => intro h; have := ih fun g hg => h g (List.mem_cons_of_mem _ hg); have := h a List.mem_cons_self; rw [List.sum_cons]; omega
    rw [List.sum_cons]
    have := h0 a List.mem_cons_self
    rcases List.mem_cons.mp h with e | e
    · have := hs l fun x hx => h0 x (List.mem_cons_of_mem _ hx); omega
    · have := mem_le_sum (fun x hx => h0 x (List.mem_cons_of_mem _ hx)) x e; omega
theorem shareOk_of {n : Int} {row : List Int} (h0 : ∀ x ∈ row, 0 ≤ x) (hs : row.sum = n) : shareOk n row = true := by
  unfold shareOk
  rw [Bool.and_eq_true]
  exact ⟨List.all_eq_true.mpr fun x hx => decide_eq_true ⟨h0 x hx, by have := mem_le_sum h0 x hx; omega⟩, decide_eq_true hs⟩
theorem all_zip {α β : Type} {p : α × β → Bool} {a : List α} {b : List β} (h : ∀ (k : Nat) (x : α) (y : β), a[k]? = some x → b[k]? = some y → p (x, y) = true) : (a.zip b).all p = true := by
  rw [List.all_eq_true]
  rintro ⟨x, y⟩ hxy
  obtain ⟨k, hk⟩ := List.getElem?_of_mem hxy
  rw [List.getElem?_zip_eq_some] at hk
  exact h k x y hk.1 hk.2
theorem colS_sum {k : Nat} {row : List Int} {T : List (List Int)} (h : TabOk k row T) : (colSum T).sum = row.sum ∧ ∀ x ∈ colSum T, 0 ≤ x := by
  have at1 : ∀ e, e < k → (colSum T).getD e 0 = sumr k fun s => (T.getD s []).getD e 0 := fun e he => by
    rw [List.getD_eq_getElem?_getD, colSum_at (by rw [h.tl]; exact he)]
    show (T.map fun r => r.getD e 0).sum = _
    rw [sum_at (fun r : List Int => r.getD e 0) [] T, h.tl]
  refine ⟨?_, fun x hx => ?_⟩
  · rw [sum_at0 (colSum T), colSum_len, h.tl, sumr_congr at1, sumr_swap, sum_at0 row, h.rl]
    refine sumr_congr fun s hs => ?_
    rw [← h.sm s hs, sum_at0 (T.getD s []), h.cl s hs]
  · obtain ⟨e, he⟩ := List.getElem?_of_mem hx
    have hl := (List.getElem?_eq_some_iff.mp he).1
    rw [colSum_len, h.tl] at hl
    have e1 := at1 e hl
    rw [List.getD_eq_getElem?_getD, he] at e1
    have e1 : x = _ := e1
    rw [e1]
    have := sumr_le (n := k) (f := fun _ => 0) (g := fun s => (T.getD s []).getD e 0) fun s hs => h.nn s e hs hl
    rw [sumr_const] at this
    exact this
theorem table_of {k : Nat} {row : List Int} {T : List (List Int)} (h : TabOk k row T) : tableD row (dAsg T) = true := by
  show (decide ((T.map dI).length = row.length) && (row.zip (T.map dI)).all fun q => splitD (row.length : Int) q.1 q.2) = true
  rw [Bool.and_eq_true]
  refine ⟨decide_eq_true (by rw [List.length_map, h.tl, h.rl]), all_zip fun s x y hx hy => ?_⟩
  rw [List.getElem?_map] at hy
  obtain ⟨r, hr, rfl⟩ := Option.map_eq_some_iff.mp hy
  have hs := (List.getElem?_eq_some_iff.mp hx).1
  rw [h.rl] at hs
  have e1 : T.getD s [] = r := by rw [List.getD_eq_getElem?_getD, hr]; rfl
  have e2 : row.getD s 0 = x := by rw [List.getD_eq_getElem?_getD, hx]; rfl
  have a1 := h.cl s hs
  have a2 := h.sm s hs
  have a3 := h.nn s
  rw [e1] at a1 a2 a3
  rw [e2] at a2
  show splitD (row.length : Int) x (dI r) = true
  rw [splitD_dI, decide_eq_true (by rw [a1, h.rl]), Bool.true_and]
  refine shareOk_of (fun v hv => ?_) a2
  obtain ⟨e, he⟩ := List.getElem?_of_mem hv
  have hl := (List.getElem?_eq_some_iff.mp he).1
  have := a3 e hs (by omega)
  rw [List.getD_eq_getElem?_getD, he] at this
  exact this
theorem change_of {cs : List Int} {gs : List Gp} {rows : List (List Int)} {tabs : List (List (List Int))} (hM : MIn cs gs rows) (h : ChOk cs gs rows tabs) : changeD cs gs rows (dTabs tabs) = true := by
  have at2 : ∀ (k : Nat) (g : Gp) (T : List (List Int)), gs[k]? = some g → tabs[k]? = some T → ∃ row, rows[k]? = some row ∧ TabOk (g.1.length + 1) row T ∧ row.sum = g.2 := fun k g T h1 h2 => by
    have hk := (List.getElem?_eq_some_iff.mp h1).1
    have hkr : k < rows.length := by rw [hM.rl]; exact hk
    have er : rows[k]? = some rows[k] := List.getElem?_eq_getElem hkr
    have := h.tb k hk
    rw [show gs.getD k ([], 0) = g by rw [List.getD_eq_getElem?_getD, h1]; rfl, show rows.getD k [] = rows[k] by rw [List.getD_eq_getElem?_getD, er]; rfl, show tabs.getD k [] = T by rw [List.getD_eq_getElem?_getD, h2]; rfl] at this
    exact ⟨_, er, this, (hM.sh k g _ h1 er).2.1⟩
  have e1 : ((tabs.map dAsg).map tabRows).map colSum = tabs.map colSum := by
    have := tabsD_dTabs tabs
    have this : (tabs.map dAsg).map tabRows = tabs := this
    rw [this]
  show (decide ((tabs.map dAsg).length = rows.length) && ((rows.zip (tabs.map dAsg)).all (fun q => tableD q.1 q.2) && isAD cs gs (dAsg (((tabs.map dAsg).map tabRows).map colSum)))) = true
  rw [Bool.and_eq_true, Bool.and_eq_true, e1]
  refine ⟨decide_eq_true (by rw [List.length_map, h.tl, h.rl]), all_zip fun k row y hx hy => ?_, ?_⟩
  · rw [List.getElem?_map] at hy
    obtain ⟨T, hT, rfl⟩ := Option.map_eq_some_iff.mp hy
    have hk := (List.getElem?_eq_some_iff.mp hx).1
    have hkg : k < gs.length := by rw [← hM.rl]; exact hk
    obtain ⟨row', hr, ok, _⟩ := at2 k gs[k] T (List.getElem?_eq_getElem hkg) hT
    have : row' = row := by rw [hx] at hr; exact (Option.some.inj hr).symm
    subst this
    exact table_of ok
  · show (decide (((tabs.map colSum).map dI).length = gs.length) && ((gs.zip ((tabs.map colSum).map dI)).all (fun q => shareD q.1 q.2) && ((loadsOf cs.length gs (((tabs.map colSum).map dI).map rowD)).zip cs).all (fun q => decide (q.1 ≤ q.2)))) = true
    rw [Bool.and_eq_true, Bool.and_eq_true]
    refine ⟨decide_eq_true (by rw [List.length_map, List.length_map, h.tl]), all_zip fun k g y hx hy => ?_, ?_⟩
    · rw [List.getElem?_map, List.getElem?_map] at hy
      obtain ⟨c, hc, rfl⟩ := Option.map_eq_some_iff.mp hy
      obtain ⟨T, hT, rfl⟩ := Option.map_eq_some_iff.mp hc
      obtain ⟨row, _, ok, hs⟩ := at2 k g T hx hT
      obtain ⟨s1, s2⟩ := colS_sum ok
      show shareD g (dI (colSum T)) = true
      rw [shareD_dI, decide_eq_true (by rw [colSum_len, ok.tl]), Bool.true_and]
      exact shareOk_of s2 (by rw [s1, hs])
    · have e2 : ((tabs.map colSum).map dI).map rowD = tabs.map colSum := by
        rw [List.map_map]
        conv => rhs; rw [← List.map_id (tabs.map colSum)]
        exact List.map_congr_left fun r _ => rowD_dI r
      rw [e2]
      refine all_zip fun k x y hx hy => decide_eq_true ?_
      have hk := (List.getElem?_eq_some_iff.mp hy).1
      have := h.ld k hk
      rw [List.getD_eq_getElem?_getD, List.getD_eq_getElem?_getD, hy, show loadsFrom (zeros cs.length) gs (tabs.map colSum) = loadsOf cs.length gs (tabs.map colSum) from rfl, hx] at this
      exact this
theorem prices_of {n : Nat} {q : List Int} (hl : q.length = n) (h : ∀ x ∈ q, 0 ≤ x ∧ x ≤ 2) : pricesD n (dI q) = true := by
  show (decide ((q.map PyData.int).length = n) && (q.map PyData.int).all (withinD 0 2)) = true
  rw [Bool.and_eq_true]
  refine ⟨decide_eq_true (by rw [List.length_map]; exact hl), List.all_eq_true.mpr fun d hd => ?_⟩
  obtain ⟨x, hx, rfl⟩ := List.mem_map.mp hd
  exact decide_eq_true (h x hx)
/-- a certificate by the law of changes is one for the program's check -/
theorem margin_of {cs : List Int} {gs : List Gp} {rows : List (List Int)} {tabs : List (List (List Int))} {q : List Int} (hM : MIn cs gs rows) (h : ChOk cs gs rows tabs) (hl : q.length = cs.length) (hq : ∀ x ∈ q, 0 ≤ x ∧ x ≤ 2) (he : (votesOf tabs).sum = limI cs gs rows q gs.length) : marginD cs gs rows (.tuple [.int (votesOf tabs).sum, dTabs tabs, dI q]) = true := by
  show (wholeD (.int (votesOf tabs).sum) && (changeD cs gs rows (dTabs tabs) && (pricesD cs.length (dI q) && (decide ((votesOf (tabsD (dTabs tabs))).sum = (votesOf tabs).sum) && decide (limI cs gs rows (rowD (dI q)) gs.length = (votesOf tabs).sum))))) = true
  rw [change_of hM h, prices_of hl hq, tabsD_dTabs, rowD_dI, decide_eq_true rfl, decide_eq_true he.symm]
  rfl
end Pv

namespace Pv
open PySem PySem.Spec PyProof.Rows L2
/-! a list that is not compared equal to [] -/
def rNeNil (K : PySem.W.Frag) : R2 := fun x y H Q => ∃ (a b : Addr) (xs : List V), x = .ref a ∧ y = .ref b ∧ SqL K H a xs ∧ SqL K H b [] ∧ Q (.bl (!xs.isEmpty)) H
theorem op_neNil {X : Cx} (hu : X.A.units < cLine) : OpR X (compareOp .NotEq) (rNeNil X.K) := by
  intro pins s σ H x y v u Q I rx ry h
  obtain ⟨a, b, xs, rfl, rfl, ha, hb, q⟩ := h
  cases rx
  cases ry
  obtain ⟨its, r1, p1, z1⟩ := I.list ha
  obtain ⟨its2, r2, p2, z2⟩ := I.list hb
  cases r2
  cases xs with
  | nil =>
    cases r1
    exact SeqAt.RcNeAt.lists (e := fun _ => true) p1.isList p2.isList rfl hu (fun j h1 _ => absurd h1 (Nat.not_lt_zero _)) X.prog X.w _ _ ⟨.bl false, H, I, rfl, q⟩
  | cons x xs =>
    have hl := r1.length
    exact SeqAt.RcNeAt.lists_lengths p1.isList p2.isList (by rw [List.size_toArray, ← hl]; rfl) hu X.prog X.w _ _ ⟨.bl true, H, I, rfl, q⟩
end Pv

namespace Pv
open PySem PySem.Spec PyProof.Rows L2
/-! zip of some tuples under a tuple pattern -/
section
variable {prog : Program} {w : World} {A : Around} {E : Value → Shared → Prop} {s : Shared}
theorem go_zipS {elts : List Expr} {x1} {pos : Pos} {b : Nat} {rows : List Addr} {f0 : Value} {f1 : Bool} {at_ : Nat → Nat} {T : Addr} {Q : Unit → Shared → Prop} (st : ZS.St0 s.heap b rows f0 f1 at_) (hf : f0 = .none ∨ ∃ a : Nat, f0 = rawInt a)
    (hQ : ∀ h' f0', ZS.St0 h' b rows f0' f1 at_ → (f0' = .none ∨ ∃ a : Nat, f0' = rawInt a) → Heap.SameBut (b + rows.length + 2) s.heap h' → Q () { s with heap := h' }) :
    wpAny (model prog w) A (letOwnedTupleGo (.Tuple elts x1 pos) (.ref (b + rows.length + 2)) (.ref T)) Q E s := by
  unfold letOwnedTupleGo
  refine wpAny_bind (wpAny_load st.zip ?_)
  show wpAny _ _ (if (["enumerate", "zip", "dict_itemiterator", "dict_reverseitemiterator", "odict_iterator", "itertools.zip_longest", "itertools.pairwise"].contains "zip" &&
      (#[f0, .bool f1, .bool false, .ref (b + rows.length), .ref (b + rows.length + 1)] : Array Value)[0]? == some (rawInt T)) = true then _ else _) Q E s
  by_cases hc : (["enumerate", "zip", "dict_itemiterator", "dict_reverseitemiterator", "odict_iterator", "itertools.zip_longest", "itertools.pairwise"].contains "zip" &&
      (#[f0, .bool f1, .bool false, .ref (b + rows.length), .ref (b + rows.length + 1)] : Array Value)[0]? == some (rawInt T)) = true
  · rw [if_pos hc]
    refine wpAny_bind (wpAny_rule ?_)
    show wpAny _ _ (setField (.ref (b + rows.length + 2)) 0 .none) Q E s
    refine wpAny_setField_rec st.zip (by simp) fun h' hz' hs' => hQ h' .none ⟨hz', ?_, ?_, ?_⟩ (.inl rfl) hs'
    · show h'.get? _ = _
      rw [hs'.2 _ (by show (b + rows.length : Nat) ≠ b + rows.length + 2; omega)]; exact st.ti
    · obtain ⟨kept, h1, e⟩ := st.to
      refine ⟨kept, h1, ?_⟩
      show h'.get? _ = _
      rw [hs'.2 _ (by show (b + rows.length + 1 : Nat) ≠ b + rows.length + 2; omega)]; exact e
    · intro k row hk
      have hk' := (List.getElem?_eq_some_iff.mp hk).1
      obtain ⟨o, ho, r⟩ := st.it k row hk
      exact ⟨o, by rw [hs'.2 _ (by show (b + k : Nat) ≠ b + rows.length + 2; omega)]; exact ho, r⟩
  · rw [if_neg hc]
    exact wpAny_pure (hQ s.heap f0 st hf (Heap.SameBut.refl _ _))
end
theorem turn_zip3 {P : Program} {w : World} {K : PySem.W.Frag} {elts : List Expr} {kk : Nat} {tpos : Pos} {b : Nat} {rows : List Addr} (hn : 0 < rows.length) (hn2 : rows.length ≤ 7) (hb : ∀ row ∈ rows, row < b) :
    Turn P w K (.Tuple elts kk tpos) (ItS K rows) (ownZ b rows.length) (b + rows.length + 2) (fun i h => ∃ f0 f1, ZS.St0 h b rows f0 f1 (fun _ => i) ∧ (f0 = .none ∨ ∃ a : Nat, f0 = rawInt a)) where
  mem := (turn_zipS (P := P) (w := w) (K := K) (y := "y") (py := tpos) hn hn2 hb).mem
  obj := (turn_zipS (P := P) (w := w) (K := K) (y := "y") (py := tpos) hn hn2 hb).obj
  keep := (turn_zipS (P := P) (w := w) (K := K) (y := "y") (py := tpos) hn hn2 hb).keep
  done := (turn_zipS (P := P) (w := w) (K := K) (y := "y") (py := tpos) hn hn2 hb).done
  self := (turn_zipS (P := P) (w := w) (K := K) (y := "y") (py := tpos) hn hn2 hb).self
  item := by
    intro X hP hw hK hc i pins s σ H E I hf st hg
    subst hP hw hK
    obtain ⟨f0, f1, st, hfr⟩ := st
    obtain ⟨cv, cu, h1, h2, h3, h4⟩ := cols_of I hg
    have hlt : b + rows.length + 2 < s.heap.objs.size := Heap.lt_size st.zip
    refine ZS.pyNext_item st hfr hn (by omega) hb h3 (fun k row hk => (h4 k row hk).2) fun h' f0' f1' st' hf' hT hsz hoff => ?_
    refine ⟨_, rfl, ?_⟩
    refine go_zipS (s := { s with heap := h' }) st' hf' fun h2' f0'' st'' hf'' sb => ?_
    have hT2 : ZS.TAt h2' s.heap.objs.size cu := by
      show h2'.get? _ = _
      rw [sb.2 _ (by show (s.heap.objs.size : Nat) ≠ b + rows.length + 2; omega)]; exact hT
    have new : ObjOk X.prog X.w (upd H s.heap.objs.size (.tup cv)) h2' s.heap.objs.size (.tup cv) :=
      ⟨Nat.le_trans (show cv.length ≤ 7 by omega) (by decide), cu, h1, ⟨_, hT2, rfl, _, rfl⟩⟩
    have I1 : Inv X pins σ (upd H s.heap.objs.size (.tup cv)) { s with heap := h2' } :=
      I.turnedNew (t' := s.toks) (ch := ownZ b rows.length) (fun c o hb' q => by
        rw [sb.2 c (fun z => hb' (by rw [z]; exact ownZ_mem.mpr (by omega)))]
        exact hoff c o (by rw [ownZ_mem] at hb'; omega) q) hf (Nat.le_refl _) new
    refine ⟨.ref s.heap.objs.size, _, I1, rfl, ⟨_, cv, rfl, I.hok.fresh (Nat.le_refl _), rfl, h2, fun k row hk => (h4 k row hk).1⟩, ⟨f0'', f1', st'', hf''⟩, fun c hcm => ?_⟩
    have hcm2 := hcm
    obtain ⟨k, hk, rfl⟩ := List.mem_map.mp hcm2
    rw [List.mem_range] at hk
    rw [upd_ne (Nat.ne_of_lt (show b + k < s.heap.objs.size by omega))]
    exact (hf _ hcm).1
def iZip3 (K : PySem.W.Frag) (t : TA) : TI := fun σ H R => t σ H fun vs H1 => ∃ (rows : List Addr), vs = rows.map V.ref ∧ 0 < rows.length ∧ rows.length ≤ 7 ∧ (∀ row ∈ rows, ∃ xs, SqT K H1 row xs) ∧ R (ItS K rows) H1
theorem pi_zip3 {X : Cx} {e : Expr} {es : List Expr} {t : TA} {p pos tpos : Pos} {elts : List Expr} {kk : Nat} (hg : Gl X "zip") (hm : X.mg "zip" = none) (ha : PA X (e :: es) t)
    (hs : starEach (e :: es) X.env = (false, eval e X.env) :: starEach es X.env := by rfl) (hpl : (backTo pos (starEach es X.env)).any (·.1) = false := by rfl) :
    PI X (.Tuple elts kk tpos) (.Call (.Name "zip" p) (e :: es) [] pos) (iZip3 X.K t) := by
  refine ⟨fun pins s σ H R I h => ?_⟩
  refine Call_ (ld_blt I hg hm PyProof.Rows.boot_zip (PyProof.Rows.callWith_type1 (thn (ha.run pos pins s σ H _ I h) fun us s2 ⟨vs, H1, I2, rv, rows, ex, hn, hn2, hrows, q⟩ => ?_) hs hpl))
  subst ex
  rw [vals_refs rv]
  have hlt : ∀ row ∈ rows, row < s2.heap.objs.size ∧ ∃ items, s2.heap.IsTuple row items := fun row hr => by
    obtain ⟨xs, hx⟩ := hrows row hr
    obtain ⟨its, _, p1, _⟩ := I2.tuple hx
    obtain ⟨o, ho, _⟩ := id p1
    exact ⟨Heap.lt_size ho, its.toArray, p1⟩
  refine ZS.call_zipN hn2 (fun row hr => (hlt row hr).2) fun h' m => ?_
  refine ZS.pyIter_zip (s := { s2 with heap := h' }) m.1.zip ?_
  have I3 : Inv X pins σ H1 { s2 with heap := h' } := I2.kept (t' := s2.toks) m.2
  refine ⟨s2.heap.objs.size + rows.length + 2, ownZ s2.heap.objs.size rows.length, _, _, H1, rfl, I3, turn_zip3 hn hn2 (fun row hr => (hlt row hr).1), ⟨.none, false, m.1, .inl rfl⟩, fun c hcm => ?_, q⟩
  have hle := (ownZ_mem.mp hcm).1
  exact I2.fpOk hle (I2.hok.fresh hle)
end Pv

namespace Pv
open PySem PySem.Spec PyProof.Rows L2
theorem iteFF {c : Bool} {A B : Prop} (hc : c = false) (h : B) : if c = true then A else B := by rw [if_neg (by rw [hc]; decide)]; exact h
theorem iteTT {c : Bool} {A B : Prop} (hc : c = true) (h : A) : if c = true then A else B := by rw [if_pos hc]; exact h
theorem g3 {K : PySem.W.Frag} {H : Hp} {a b c : Addr} {xs ys zs : List V} (h1 : SqT K H a xs) (h2 : SqT K H b ys) (h3 : SqT K H c zs) : ∀ (k : Nat) (row : Addr) (l : List V), [a, b, c][k]? = some row → [xs, ys, zs][k]? = some l → SqT K H row l
  | 0, _, _, e1, e2 => by cases e1; cases e2; exact h1
  | 1, _, _, e1, e2 => by cases e1; cases e2; exact h2
  | 2, _, _, e1, e2 => by cases e1; cases e2; exact h3
  | k + 3, _, _, e1, _ => by simp at e1
theorem col3 {col xs ys zs : List V} {i : Nat} (hl : col.length = 3) (h : ∀ (k : Nat) (l : List V), [xs, ys, zs][k]? = some l → col[k]? = l[i]?) : ∃ x y z, col = [x, y, z] ∧ xs[i]? = some x ∧ ys[i]? = some y ∧ zs[i]? = some z := by
  match col, hl with
  | [x, y, z], _ => exact ⟨x, y, z, rfl, (h 0 _ rfl).symm, (h 1 _ rfl).symm, (h 2 _ rfl).symm⟩
theorem tabs_open {K : PySem.W.Frag} {H : Hp} {v : V} {tabs : List (List (List Int))} (h : Dp K H v (dTabs tabs)) : ∃ (a : Addr) (xs : List V), v = .ref a ∧ SqT K H a xs ∧ DpAll K H xs (tabs.map dAsg) := by
  cases h with
  | tup h1 h2 => exact ⟨_, _, rfl, h1, h2⟩
/-- what the loads are after j tables and s rows of the next -/
structure LdAt (cs : List Int) (gs : List Gp) (tabs : List (List (List Int))) (j s : Nat) (ls : List Int) : Prop where
  len : ls.length = cs.length
  dot : ∀ q : List Int, dotR ls q = (sumr j fun j' => dotR (colSum (tabs.getD j' [])) (costsOf q (gs.getD j' ([], 0)).1)) + sumr s fun s' => dotR ((tabs.getD j []).getD s' []) (costsOf q (gs.getD j ([], 0)).1)
theorem LdAt.zero {cs : List Int} {gs : List Gp} {tabs : List (List (List Int))} : LdAt cs gs tabs 0 0 (zeros cs.length) := ⟨by simp [zeros], fun q => by rw [dot_zeros]; rfl⟩
theorem LdAt.row {cs : List Int} {gs : List Gp} {tabs : List (List (List Int))} {j s : Nat} {ls row : List Int} {ps : List Int} (h : LdAt cs gs tabs j s ls) (hp : (gs.getD j ([], 0)).1 = ps) (hr : (tabs.getD j []).getD s [] = row) (hb : ∀ p ∈ ps, 0 ≤ p ∧ p < (cs.length : Int)) (hl : row.length = ps.length + 1) : LdAt cs gs tabs j (s + 1) (rowLoads ls ps row) := by
  refine ⟨by rw [rowLoads_len]; exact h.len, fun q => ?_⟩
  rw [dot_rowLoads (by rw [h.len]; exact hb) hl, h.dot q, sumr_succ, hp, hr]; omega
theorem LdAt.tab {cs : List Int} {gs : List Gp} {rows : List (List Int)} {tabs : List (List (List Int))} {j : Nat} {ls : List Int} (c : ChTb gs rows tabs) (hj : j < gs.length) (h : LdAt cs gs tabs j ((gs.getD j ([], 0)).1.length + 1) ls) : LdAt cs gs tabs (j + 1) 0 ls := by
  refine ⟨h.len, fun q => ?_⟩
  have e := colS_dot (c.tb j hj) (costsOf q (gs.getD j ([], 0)).1)
  rw [h.dot q, sumr_zero, sumr_succ j, e]; omega
theorem LdAt.fin {cs : List Int} {gs : List Gp} {rows : List (List Int)} {tabs : List (List (List Int))} {ls : List Int} (c : ChOk cs gs rows tabs) (hp : ∀ g ∈ gs, ∀ p ∈ g.1, 0 ≤ p ∧ p < (cs.length : Int)) (h : LdAt cs gs tabs gs.length 0 ls) {k : Nat} (hk : k < cs.length) : ls.getD k 0 ≤ cs.getD k 0 := by
  have e1 := h.dot (indC cs.length k)
  have e2 := loads_dot c.toChTb hp (indC cs.length k)
  rw [ind_dot hk h.len, sumr_zero, Int.add_zero, ← e2, ind_dot hk (by rw [loadsFrom_len]; simp [zeros])] at e1
  rw [e1]; exact c.ld k hk

theorem shareOk_iff {n : Int} {row : List Int} : shareOk n row = true ↔ (∀ x ∈ row, 0 ≤ x) ∧ row.sum = n := by
  constructor
  · intro h
    unfold shareOk at h
    rw [Bool.and_eq_true, List.all_eq_true, decide_eq_true_iff] at h
    exact ⟨fun x hx => (of_decide_eq_true (h.1 x hx)).1, h.2⟩
  · rintro ⟨h1, h2⟩
    exact shareOk_of h1 h2
theorem split_iff {n : Nat} {t : Int} {zs : List Int} : splitD (n : Int) t (dI zs) = true ↔ zs.length = n ∧ (∀ x ∈ zs, 0 ≤ x) ∧ zs.sum = t := by
  rw [splitD_dI, Bool.and_eq_true, decide_eq_true_iff, shareOk_iff]
  constructor
  · rintro ⟨h1, h2⟩; exact ⟨by omega, h2⟩
  · rintro ⟨h1, h2⟩; exact ⟨by omega, h2⟩
/-- a part that is not allowed in a row -/
def badI (d : PyData) : Bool := !isInt d || (isBool d || (match d with | .int i => decide (i < 0) | _ => false))
theorem good_ints : ∀ {es : List PyData}, (∀ e ∈ es, badI e = false) → ∃ zs : List Int, es = zs.map PyData.int ∧ ∀ z ∈ zs, 0 ≤ z
  | [], _ => ⟨[], rfl, by simp⟩
  | e :: es, h => by
    obtain ⟨zs, e1, h1⟩ := good_ints (es := es) fun x hx => h x (List.mem_cons_of_mem _ hx)
    have h0 := h e (List.mem_cons_self ..)
    cases e with
    | int i =>
      simp [badI, isInt, isBool] at h0
      exact ⟨i :: zs, by rw [e1]; rfl, fun z hz => by rcases List.mem_cons.mp hz with rfl | hz; exact h0; exact h1 z hz⟩
    | bool b => simp [badI, isInt, isBool] at h0
    | _ => simp [badI, isInt] at h0
theorem bad_split {n t : Int} {es : List PyData} {e : PyData} (he : e ∈ es) (hb : badI e = true) : splitD n t (.tuple es) = false := by
  refine Bool.eq_false_iff.mpr fun h => ?_
  obtain ⟨h1, _, h3⟩ := splitD_row h
  obtain ⟨h4, _⟩ := shareOk_iff.mp h3
  have : es = (rowD (.tuple es)).map PyData.int := by injection h1
  rw [this] at he
  obtain ⟨i, hi, rfl⟩ := List.mem_map.mp he
  have := h4 i hi
  simp [badI, isInt, isBool] at hb
  omega
theorem split_tup {n t : Int} {d : PyData} (h : splitD n t d = true) : ∃ es, d = .tuple es ∧ (es.length : Int) = n := by
  obtain ⟨h1, h2, _⟩ := splitD_row h
  rw [h1]
  exact ⟨_, rfl, by rw [List.length_map]; exact h2⟩
theorem table_at {row : List Int} {es : List PyData} (h : tableD row (.tuple es) = true) {s : Nat} {n : Int} {e : PyData} (hn : row[s]? = some n) (he : es[s]? = some e) : splitD (row.length : Int) n e = true := by
  simp only [tableD, Bool.and_eq_true, decide_eq_true_eq] at h
  exact List.all_eq_true.mp h.2 (n, e) (List.mem_of_getElem? (i := s) (by rw [List.getElem?_zip_eq_some]; exact ⟨hn, he⟩))
theorem table_all {row : List Int} {es : List PyData} (hl : es.length = row.length) (h : ∀ (s : Nat) (n : Int) (e : PyData), s < row.length → row[s]? = some n → es[s]? = some e → splitD (row.length : Int) n e = true) : tableD row (.tuple es) = true := by
  simp only [tableD, Bool.and_eq_true, decide_eq_true_eq]
  refine ⟨hl, all_zip fun k x y hx hy => h k x y (List.getElem?_eq_some_iff.mp hx).1 hx hy⟩
theorem change_at {cs : List Int} {gs : List Gp} {rows : List (List Int)} {ts : List PyData} (h : changeD cs gs rows (.tuple ts) = true) {j : Nat} {row : List Int} {d : PyData} (hn : rows[j]? = some row) (he : ts[j]? = some d) : tableD row d = true := by
  have h' : decide (ts.length = rows.length) = true ∧ (rows.zip ts).all (fun q => tableD q.1 q.2) = true ∧ isAD cs gs (dAsg ((ts.map tabRows).map colSum)) = true := by simpa only [changeD, Bool.and_eq_true] using h
  exact List.all_eq_true.mp h'.2.1 (row, d) (List.mem_of_getElem? (i := j) (by rw [List.getElem?_zip_eq_some]; exact ⟨hn, he⟩))
theorem tab_ok {k : Nat} {row : List Int} {d : PyData} (hk : row.length = k) (h : tableD row d = true) : TabOk k row (tabRows d) := by
  obtain ⟨h1, h2, h3, h4⟩ := table_rows h
  have at1 : ∀ s, s < k → ∃ r, (tabRows d)[s]? = some r ∧ (tabRows d).getD s [] = r := fun s hs => by
    have : s < (tabRows d).length := by omega
    exact ⟨_, List.getElem?_eq_getElem this, by rw [List.getD_eq_getElem?_getD, List.getElem?_eq_getElem this]; rfl⟩
  refine ⟨hk, by omega, fun s hs => ?_, fun s e hs he => ?_, fun s hs => ?_⟩
  · obtain ⟨r, e1, e2⟩ := at1 s hs
    rw [e2, h3 r (List.mem_of_getElem? e1)]; exact hk
  · obtain ⟨r, e1, e2⟩ := at1 s hs
    have hl : s < row.length := by omega
    obtain ⟨q1, _⟩ := shareOk_iff.mp (h4 s _ r (List.getElem?_eq_getElem hl) e1)
    rw [e2, List.getD_eq_getElem?_getD]
    cases hx : r[e]? with
    | none => exact Int.le_refl _
    | some x => exact q1 x (List.mem_of_getElem? hx)
  · obtain ⟨r, e1, e2⟩ := at1 s hs
    have hl : s < row.length := by omega
    obtain ⟨_, q2⟩ := shareOk_iff.mp (h4 s _ r (List.getElem?_eq_getElem hl) e1)
    rw [e2, q2, List.getD_eq_getElem?_getD, List.getElem?_eq_getElem hl]; rfl
theorem LdAt.tab1 {cs : List Int} {gs : List Gp} {row : List Int} {tabs : List (List (List Int))} {j : Nat} {ls : List Int} (c : TabOk ((gs.getD j ([], 0)).1.length + 1) row (tabs.getD j [])) (h : LdAt cs gs tabs j ((gs.getD j ([], 0)).1.length + 1) ls) : LdAt cs gs tabs (j + 1) 0 ls := by
  refine ⟨h.len, fun q => ?_⟩
  have e := colS_dot c (costsOf q (gs.getD j ([], 0)).1)
  rw [h.dot q, sumr_zero, sumr_succ j, e]; omega
theorem LdAt.eq {cs : List Int} {gs : List Gp} {rows : List (List Int)} {tabs : List (List (List Int))} {ls : List Int} (c : ChTb gs rows tabs) (hp : ∀ g ∈ gs, ∀ p ∈ g.1, 0 ≤ p ∧ p < (cs.length : Int)) (h : LdAt cs gs tabs gs.length 0 ls) {k : Nat} (hk : k < cs.length) : ls.getD k 0 = (loadsFrom (zeros cs.length) gs (tabs.map colSum)).getD k 0 := by
  have e1 := h.dot (indC cs.length k)
  have e2 := loads_dot c hp (indC cs.length k)
  rw [ind_dot hk h.len, sumr_zero, Int.add_zero, ← e2, ind_dot hk (by rw [loadsFrom_len]; simp [zeros])] at e1
  exact e1
theorem change_fits {cs : List Int} {gs : List Gp} {rows : List (List Int)} {ts : List PyData} (hM : MIn cs gs rows) (hl : ts.length = rows.length) (ht : ∀ (j : Nat) (row : List Int) (d : PyData), j < gs.length → rows[j]? = some row → ts[j]? = some d → tableD row d = true) : ChTb gs rows (ts.map tabRows) := by
  refine ⟨hM.rl, by rw [List.length_map, hl]; exact hM.rl, fun j hj => ?_⟩
  have hjr : j < rows.length := by rw [hM.rl]; exact hj
  have hjt : j < ts.length := by omega
  have e1 : rows.getD j [] = rows[j] := by rw [List.getD_eq_getElem?_getD, List.getElem?_eq_getElem hjr]; rfl
  have e2 : (ts.map tabRows).getD j [] = tabRows ts[j] := by rw [List.getD_eq_getElem?_getD, List.getElem?_map, List.getElem?_eq_getElem hjt]; rfl
  have e3 : gs.getD j ([], 0) = gs[j] := by rw [List.getD_eq_getElem?_getD, List.getElem?_eq_getElem hj]; rfl
  rw [e1, e2, e3]
  exact tab_ok (hM.sh j _ _ (List.getElem?_eq_getElem hj) (List.getElem?_eq_getElem hjr)).1 (ht j _ _ hj (List.getElem?_eq_getElem hjr) (List.getElem?_eq_getElem hjt))
theorem fits_false {cs : List Int} {gs : List Gp} {rows : List (List Int)} {ts : List PyData} (h : changeD cs gs rows (.tuple ts) = true) (htl : (ts.map tabRows).length = gs.length) {k : Nat} (hk : k < cs.length) : (loadsFrom (zeros cs.length) gs ((ts.map tabRows).map colSum)).getD k 0 ≤ cs.getD k 0 := by
  have h' : decide (ts.length = rows.length) = true ∧ (rows.zip ts).all (fun q => tableD q.1 q.2) = true ∧ isAD cs gs (dAsg ((ts.map tabRows).map colSum)) = true := by simpa only [changeD, Bool.and_eq_true] using h
  have h2 := h'.2.2
  generalize (ts.map tabRows).map colSum = cols at h2 ⊢
  have h3 : (decide ((cols.map dI).length = gs.length) && ((gs.zip (cols.map dI)).all (fun q => shareD q.1 q.2) && ((loadsOf cs.length gs ((cols.map dI).map rowD)).zip cs).all (fun q => decide (q.1 ≤ q.2)))) = true := h2
  rw [Bool.and_eq_true, Bool.and_eq_true] at h3
  have e2 : (cols.map dI).map rowD = cols := by
    rw [List.map_map]
    conv => rhs; rw [← List.map_id cols]
    exact List.map_congr_left fun r _ => rowD_dI r
  rw [e2] at h3
  have hlen : (loadsFrom (zeros cs.length) gs cols).length = cs.length := by rw [loadsFrom_len]; simp [zeros]
  have hm : ((loadsFrom (zeros cs.length) gs cols).getD k 0, cs.getD k 0) ∈ (loadsOf cs.length gs cols).zip cs := by
    refine List.mem_of_getElem? (i := k) ?_
    rw [List.getElem?_zip_eq_some]
    refine ⟨?_, ?_⟩
    · show (loadsFrom (zeros cs.length) gs cols)[k]? = _
      rw [List.getD_eq_getElem?_getD, List.getElem?_eq_getElem (by omega)]; rfl
    · show cs[k]? = some (cs.getD k 0)
      rw [List.getD_eq_getElem?_getD, List.getElem?_eq_getElem hk]; rfl
  exact of_decide_eq_true (List.all_eq_true.mp h3.2.2 _ hm)
/-- after the last table the loads decide -/
theorem change_end {cs : List Int} {gs : List Gp} {rows : List (List Int)} {ts : List PyData} {ls : List Int} (hM : MIn cs gs rows) (hl : ts.length = rows.length) (ht : ∀ (j : Nat) (row : List Int) (d : PyData), j < gs.length → rows[j]? = some row → ts[j]? = some d → tableD row d = true) (h : LdAt cs gs (ts.map tabRows) gs.length 0 ls) :
    ((ls.zip cs).filterMap (fun q => if decide (q.2 < q.1) = true then some (V.int 1) else none)).isEmpty = changeD cs gs rows (.tuple ts) := by
  have tb := change_fits hM hl ht
  have hp : ∀ g ∈ gs, ∀ p ∈ g.1, 0 ≤ p ∧ p < (cs.length : Int) := fun g hg => (hM.gp g hg).1
  have e : PyData.tuple ts = dTabs (ts.map tabRows) := by
    show PyData.tuple ts = .tuple ((ts.map tabRows).map dAsg)
    rw [← tables_rows hl (all_zip fun k x y hx hy => ht k x y (by have := (List.getElem?_eq_some_iff.mp hx).1; rw [hM.rl] at this; exact this) hx hy)]
  have hll := h.len
  cases hb : changeD cs gs rows (.tuple ts) with
  | true =>
    rw [List.isEmpty_iff, List.filterMap_eq_nil_iff]
    rintro ⟨x, y⟩ hxy
    obtain ⟨k, hk⟩ := List.getElem?_of_mem hxy
    rw [List.getElem?_zip_eq_some] at hk
    have hkc := (List.getElem?_eq_some_iff.mp hk.2).1
    have := fits_false hb tb.tl hkc
    rw [← h.eq tb hp hkc, List.getD_eq_getElem?_getD, List.getD_eq_getElem?_getD, hk.1, hk.2] at this
    have this : x ≤ y := this
    rw [if_neg (by rw [decide_eq_true_iff]; omega)]
  | false =>
    refine Bool.eq_false_iff.mpr fun hz => ?_
    rw [List.isEmpty_iff, List.filterMap_eq_nil_iff] at hz
    have : changeD cs gs rows (.tuple ts) = true := by
      rw [e]
      refine change_of hM ⟨tb, fun k hk => ?_⟩
      rw [← h.eq tb hp hk]
      have h1 : ls[k]? = some ls[k] := List.getElem?_eq_getElem (by omega)
      have h2 : cs[k]? = some cs[k] := List.getElem?_eq_getElem hk
      have := hz (ls[k], cs[k]) (List.mem_of_getElem? (i := k) (by rw [List.getElem?_zip_eq_some]; exact ⟨h1, h2⟩))
      rw [List.getD_eq_getElem?_getD, List.getD_eq_getElem?_getD, h1, h2]
      show ls[k] ≤ cs[k]
      refine Classical.byContradiction fun hn => ?_
      rw [if_pos (by rw [decide_eq_true_iff]; dsimp only; omega)] at this
      cases this
    rw [hb] at this
    cases this
end Pv

namespace Pv
open PySem PySem.Spec PyProof.Rows L2
abbrev sLC : Stmt := topS 40
theorem scLC : FnScope ["_law_instance", "_law_assignment_here", "_law_value", "_law_loads", "_law_posts", "_law_count", "_law_numbers", "_law_table", "_law_number", "_law_row", "_law_post", "_law_item", "_law_load", "_law_capacity"] ["_law_instance", "_law_assignment_here", "_law_value"] (defScope sLC) := ⟨rfl, rfl, rfl, by decide +kernel, rfl, by decide +kernel, by decide +kernel⟩
section
variable {P : Program} {w : World} {K : PySem.W.Frag} {mg : Str → Option Value} {base : Heap}
def spLD (K : PySem.W.Frag) : Sp := fun vs H Q _ => ∃ (st r i a : Addr) (v : V) (cs : List Int) (gs : List Gp) (rows : List (List Int)) (d : PyData), vs = [.ref i, .ref a, v] ∧ Dp K H (.ref i) (dInst cs gs) ∧ Dp K H (.ref a) (dAsg rows) ∧ Dq K st r H v d ∧ InsOk cs gs ∧ MIn cs gs rows ∧ ∀ H', Same H H' → Q (.bl (changeD cs gs rows d)) H'
theorem dq_sq {K : PySem.W.Frag} {st r : Addr} {H : Hp} {v : V} {ds : List PyData} (h : Dq K st r H v (.tuple ds)) : ∃ (a : Addr) (xs : List V), v = .ref a ∧ SqT K H a xs ∧ DqAll K st r H xs ds := by
  cases h with
  | tup h1 h2 => exact ⟨_, _, rfl, h1, h2⟩
theorem dqInts {K : PySem.W.Frag} {st r : Addr} {H : Hp} : ∀ {xs : List V} {ns : List Int}, DqAll K st r H xs (ns.map PyData.int) → xs = ns.map V.int
  | [], [], _ => rfl
  | _ :: _, _ :: _, h => by
    cases h with
    | cons h1 h2 =>
      cases h1
      rw [dqInts h2]; rfl
  | [], _ :: _, h => nomatch h
  | _ :: _, [], h => nomatch h
set_option maxHeartbeats 16000000 in
theorem ok_LC {f : Addr} {fd : FuncData} (F : Fun K "_law_is_change" "_law_is_change" sLC f fd)
    (m_tuple : mg "tuple" = none) (m_isinstance : mg "isinstance" = none) (m_len : mg "len" = none) (m_zip : mg "zip" = none) (m_int : mg "int" = none) (m_bool : mg "bool" = none) (m_sum : mg "sum" = none) :
    FnOk P w K mg base CX0 1 f fd ["_law_instance", "_law_assignment_here", "_law_value"] (spLD K) := by
  refine F.ok scLC (fun vs H Q E h => ?_) (fun cdv A outer s H vs Q E hr h => ?_)
  · obtain ⟨st, r, i, a, v, cs, gs, rows, d, rfl, _⟩ := h; rfl
  · obtain ⟨st, r, i, a, v, cs, gs, rows, d, rfl, hI, hA, hD, ok, hM, q⟩ := h
    have hu64 : (A.deeper (envOfC "_law_is_change" (defScope sLC) s.heap.objs.size f cdv)).units + 64 < cLine := by have := hr.un; omega
    have hu0 : (A.deeper (envOfC "_law_is_change" (defScope sLC) s.heap.objs.size f cdv)).units < cLine := by have := hr.un; omega
    refine ⟨_, pss_cons (ps_if (PW.pt (pw_or (pt_not (pt_val (pe_callB call_isi (by rfl) m_isinstance (by decide +kernel) (pa_cons (pv 2) (pa_cons (pe_bltn (v := .ty "tuple") (by rfl) m_tuple (by decide +kernel) rfl) pa_nil))))) (pw_or1 (pt_cmpR op_ne (pe_callB call_lenQ (by rfl) m_len PySem.boot_len (pa_cons (pv 2) pa_nil)) (pe_callB call_lenQ (by rfl) m_len PySem.boot_len (pa_cons (pv 1) pa_nil)) (nomark _)))))
        (pss_one (ps_ret (pe_bl))) pss_nil)
      (pss_cons (ps_set (i := 3) scLC.nd rfl (.inl rfl) (pe_op op_rep (pe_lst (pa_cons (pe_int) pa_nil)) (pe_callB call_lenQ (by rfl) m_len PySem.boot_len (pa_cons (pe_ix ix_tup (pv 0) (pe_int) (fun _ _ => rfl)) pa_nil))))
      (pss_cons (ps_for PassesOwn.never rfl (pi_zip3 (by rfl) m_zip (pa_cons (pe_ix ix_tup (pv 0) (pe_int) (fun _ _ => rfl)) (pa_cons (pv 1) (pa_cons (pv 2) pa_nil)))) (pg_tup rfl (pgs_cons (pg_tup rfl (pgs_cons (pg_name (i := 4) scLC.nd rfl (.inl rfl)) (pgs_cons (pg_name (i := 5) scLC.nd rfl (.inl rfl)) pgs_nil))) (pgs_cons (pg_name (i := 6) scLC.nd rfl (.inl rfl)) (pgs_cons (pg_name (i := 7) scLC.nd rfl (.inl rfl)) pgs_nil))))
        (pss_cons (ps_if (PW.pt (pw_or (pt_not (pt_val (pe_callB call_isi (by rfl) m_isinstance (by decide +kernel) (pa_cons (pv 7) (pa_cons (pe_bltn (v := .ty "tuple") (by rfl) m_tuple (by decide +kernel) rfl) pa_nil))))) (pw_or1 (pt_cmpR op_ne (pe_callB call_lenQ (by rfl) m_len PySem.boot_len (pa_cons (pv 7) pa_nil)) (pe_callB call_lenQ (by rfl) m_len PySem.boot_len (pa_cons (pv 6) pa_nil)) (nomark _)))))
          (pss_one (ps_ret (pe_bl))) pss_nil)
        (pss_one (ps_for PassesOwn.never rfl (RZ.pi_zipA (by rfl) m_zip (pa_cons (pv 6) (pa_cons (pv 7) pa_nil))) (pg_tup rfl (pgs_cons (pg_name (i := 8) scLC.nd rfl (.inl rfl)) (pgs_cons (pg_name (i := 9) scLC.nd rfl (.inl rfl)) pgs_nil)))
          (pss_cons (ps_if (PW.pt (pw_or (pt_not (pt_val (pe_callB call_isi (by rfl) m_isinstance (by decide +kernel) (pa_cons (pv 9) (pa_cons (pe_bltn (v := .ty "tuple") (by rfl) m_tuple (by decide +kernel) rfl) pa_nil))))) (pw_or1 (pt_cmpR op_ne (pe_callB call_lenQ (by rfl) m_len PySem.boot_len (pa_cons (pv 9) pa_nil)) (pe_callB call_lenQ (by rfl) m_len PySem.boot_len (pa_cons (pv 6) pa_nil)) (nomark _)))))
            (pss_one (ps_ret (pe_bl))) pss_nil)
          (pss_cons (ps_if (pt_cmpR (op_neNil hu0) (pe_lc (own := [("_law_item", 11)]) (g := gName 11) (tt := tOr (tNot (tB (tCB (rIsi K) (tCons (tVar 11) (tCons (tC (.ty "int")) tNil))))) (tOr (tB (tCB (rIsi K) (tCons (tVar 11) (tCons (tC (.ty "bool")) tNil)))) (tTest (tOp (rI0 fun i j => .bl (decide (i < j))) (tVar 11) (tC (.int 0)))))) (te := tC (.int 1)) rfl scLC.nd (pi_tup (pv 9)) (blkOk_by (N := ["_law_instance", "_law_assignment_here", "_law_value", "_law_loads", "_law_posts", "_law_count", "_law_numbers", "_law_table", "_law_number", "_law_row", "_law_post", "_law_item", "_law_load", "_law_capacity"]) (sc := defScope sLC) (by decide +kernel)) (fun _ _ _ _ _ => pg_name (i := 11) scLC.nd rfl (.inl rfl)) (fun _ _ _ _ _ => pts_one (PW.pt (pw_or (pt_not (pt_val (pe_callB call_isi (by rfl) m_isinstance (by decide +kernel) (pa_cons (pv 11) (pa_cons (pe_bltn (v := .ty "int") (by rfl) m_int (by decide +kernel) rfl) pa_nil))))) (pw_or (pt_val (pe_callB call_isi (by rfl) m_isinstance (by decide +kernel) (pa_cons (pv 11) (pa_cons (pe_bltn (v := .ty "bool") (by rfl) m_bool (by decide +kernel) rfl) pa_nil)))) (pw_or1 (pt_cmpR op_lt (pv 11) (pe_int) (nomark _))))))) (fun _ _ _ _ _ => pe_int)) (pe_lst (pa_nil)) (nomark _))
            (pss_one (ps_ret (pe_bl))) pss_nil)
          (pss_cons (ps_if (pt_cmpR op_ne (pe_callB (call_sumTQ rfl) (by rfl) m_sum (by decide +kernel) (pa_cons (pv 9) pa_nil)) (pv 8) (nomark _))
            (pss_one (ps_ret (pe_bl))) pss_nil)
          (pss_one (ps_for PassesOwn.never rfl (RZ.pi_zipA (by rfl) m_zip (pa_cons (pv 4) (pa_cons (pv 9) pa_nil))) (pg_tup rfl (pgs_cons (pg_name (i := 10) scLC.nd rfl (.inl rfl)) (pgs_cons (pg_name (i := 11) scLC.nd rfl (.inl rfl)) pgs_nil)))
            (pss_one (ps_asg (pe_op op_add (pe_ix ix_list (pv 3) (pv 10) (fun _ _ => rfl)) (pv 11)) (pg_sub (pv 3) (pv 10) set_list))))))))))))
      (pss_one (ps_ret (pe_cmpR (op_eqNil hu0) (pe_lc (own := [("_law_load", 12), ("_law_capacity", 13)]) (g := gTup K 2 (gCons (gName 12) (gCons (gName 13) gNil))) (tt := tTest (tOp (rI0 fun i j => .bl (decide (j < i))) (tVar 12) (tVar 13))) (te := tC (.int 1)) rfl scLC.nd (pi_zipM (by rfl) m_zip (pa_cons (pv 3) (pa_cons (pe_ix ix_tup (pv 0) (pe_int) (fun _ _ => rfl)) pa_nil))) (blkOk_by (N := ["_law_instance", "_law_assignment_here", "_law_value", "_law_loads", "_law_posts", "_law_count", "_law_numbers", "_law_table", "_law_number", "_law_row", "_law_post", "_law_item", "_law_load", "_law_capacity"]) (sc := defScope sLC) (by decide +kernel)) (fun _ _ _ _ _ => pg_tup rfl (pgs_cons (pg_name (i := 12) scLC.nd rfl (.inl rfl)) (pgs_cons (pg_name (i := 13) scLC.nd rfl (.inl rfl)) pgs_nil))) (fun _ _ _ _ _ => pts_one (pt_cmpR op_gt (pv 12) (pv 13) (nomark _))) (fun _ _ _ _ _ => pe_int)) (pe_lst (pa_nil)) (nomark _)))))), ?_⟩
    obtain ⟨_, ca, ga, xs, e, hi, hc, hg, hgs⟩ := inst_open hI
    cases e
    obtain ⟨_, ys, e, ha, hrows⟩ := asg_open hA
    cases e
    have lx : xs.length = gs.length := by have := DpAll.len hgs; rwa [List.length_map] at this
    have ly : ys.length = gs.length := by have := DpAll.len hrows; rw [List.length_map] at this; rw [this, hM.rl]
    have hc6 := ok.c6
    have hg10 := ok.g10
    have hrl := hM.rl
    have hpp : ∀ g ∈ gs, ∀ p ∈ g.1, 0 ≤ p ∧ p < (cs.length : Int) := fun g hg => (ok.gp g hg).2.1
    refine ⟨v, rfl, v, .ty "tuple", _, _, _, rfl, .ty _, hD.ty, kit_tup d, _, rfl, ite2 (fun h1 => ?_) (fun h1 => ?_)⟩
    · refine iteT ?_
      have : changeD cs gs rows d = false := by
        cases d with
        | tuple ds => simp [isTup] at h1
        | _ => rfl
      rw [this] at q
      exact q _ (Same.refl _)
    obtain ⟨ts, rfl⟩ : ∃ ts, d = .tuple ts := by
      cases d with
      | tuple ds => exact ⟨ds, rfl⟩
      | _ => simp [isTup] at h1
    obtain ⟨vA, zs, rfl, hv, htabs⟩ := dq_sq hD
    have lz0 : zs.length = ts.length := DqAll.len htabs
    have lyr : ys.length = rows.length := by omega
    by_cases nlen : ts.length = rows.length
    rotate_left
    · have : changeD cs gs rows (.tuple ts) = false := by
        simp only [changeD, Bool.and_eq_false_iff]
        exact .inl (decide_eq_false nlen)
      rw [this] at q
      refine ⟨.ref vA, rfl, vA, _, rfl, .inr hv, .ref a, rfl, a, _, rfl, .inr ha, rfl, _, rfl, iteTT (by simp; omega) ?_⟩
      exact q _ (Same.refl _)
    have lz : zs.length = gs.length := by omega
    have fail : ∀ {j : Nat} {row : List Int} {dj : PyData}, rows[j]? = some row → ts[j]? = some dj → tableD row dj = false → changeD cs gs rows (.tuple ts) = false := fun h1 h2 h3 => Bool.eq_false_iff.mpr fun hz => by
      have := change_at hz h1 h2
      rw [h3] at this
      cases this
    refine ⟨.ref vA, rfl, vA, _, rfl, .inr hv, .ref a, rfl, a, _, rfl, .inr ha, rfl, _, rfl, iteNS (by rw [lz, ly]) ?_⟩
    refine ⟨by decide, fun p0 n0 => ⟨.ref i, rfl, i, _, 0, .ref ca, rfl, rfl, (TupK.new n0).sq hi, atI_nat (j := 0) rfl, ca, _, rfl, .inr ((TupK.new n0).sq hc), p0, _, _, rfl, rfl, upd_same, by omega, ?_, ?_, fun L nL => ?_⟩⟩
    · rw [List.length_map]; omega
    · rw [List.length_map]; show 1 * _ ≤ sizeLine; have := small (n := cs.length) (by omega); simp; omega
    have fL : H L = none := freeOf nL
    have s1 : Same H (upd (upd H p0 (.lst [.int 0])) L (.lst (List.replicate ((List.map V.int cs).length : Int).toNat [V.int 0]).flatten)) := samePut (sameNew n0) fL
    refine ⟨.ref i, rfl, i, _, 1, .ref ga, rfl, rfl, (TupK.of s1).sq hi, atI_nat (j := 1) rfl, .ref a, rfl, .ref vA, rfl, [ga, a, vA], rfl, (show 0 < 3 by decide), (show 3 ≤ 7 by decide), ?_, for_it (walk_zipS (K := K) (rows := [ga, a, vA]) (xss := [xs, ys, zs]) (n := gs.length) (show 0 < 3 by decide) rfl ?_)
      (fun j σ H2 => ∃ (y4 y5 y6 y7 y8 y9 y10 y11 : Option V) (ls : List Int), σ = [some (.ref i), some (.ref a), some (.ref vA), some (.ref L), y4, y5, y6, y7, y8, y9, y10, y11, none, none] ∧ Same H H2 ∧ H2 L = some (.lst (ls.map V.int)) ∧ LdAt cs gs (ts.map tabRows) j 0 ls ∧ ∀ (m : Nat) (row : List Int) (d : PyData), m < j → rows[m]? = some row → ts[m]? = some d → tableD row d = true)
      ⟨none, none, none, none, none, none, none, none, zeros cs.length, rfl, s1, by rw [upd_same, zeros_V, List.length_map]; simp, .zero, fun m row d h => absurd h (Nat.not_lt_zero m)⟩ ?_ ?_ ?_⟩
    · intro row hr
      have hr : row = ga ∨ row = a ∨ row = vA := by simpa using hr
      rcases hr with e | e | e
      · rw [e]; exact ⟨_, (TupK.of s1).sq hg⟩
      · rw [e]; exact ⟨_, (TupK.of s1).sq ha⟩
      · rw [e]; exact ⟨_, (TupK.of s1).sq hv⟩
    · intro l hl
      have hl : l = xs ∨ l = ys ∨ l = zs := by simpa using hl
      rcases hl with e | e | e <;> rw [e] <;> assumption
    · rintro j σ H2 _ ⟨y4, y5, y6, y7, y8, y9, y10, y11, ls, rfl, s2, e2, hL, hT⟩
      exact g3 ((TupK.of s2).sq hg) ((TupK.of s2).sq ha) ((TupK.of s2).sq hv)
    · rintro j v' σ H2 H3 hlt ⟨y4, y5, y6, y7, y8, y9, y10, y11, ls, rfl, s2, e2, hL, hT⟩ ⟨T, col, rfl, nT, rfl, lc, hcol⟩
      obtain ⟨x, y, z, rfl, hx, hy, hz⟩ := col3 lc hcol
      have eg : gs[j]? = some gs[j] := List.getElem?_eq_getElem hlt
      obtain ⟨d, hd, hxd⟩ := DpAll.at hgs hx
      rw [List.getElem?_map, eg] at hd
      have hd : dGrp gs[j] = d := Option.some.inj hd
      subst hd
      have eg' : gs.getD j ([], 0) = gs[j] := by rw [List.getD_eq_getElem?_getD, eg]; rfl
      have hgj := ok.gp gs[j] (List.getElem_mem hlt)
      obtain ⟨d, hd, hyd⟩ := DpAll.at hrows hy
      rw [List.getElem?_map] at hd
      obtain ⟨row, hrow, rfl⟩ := Option.map_eq_some_iff.mp hd
      have shj := hM.sh j _ row eg hrow
      generalize gs[j] = g at *
      obtain ⟨dj, hdj, hzd⟩ := DqAll.at htabs hz
      obtain ⟨gA, pA, rfl, hG, hP⟩ := grp_ref hxd
      obtain ⟨rA, rfl, hR⟩ := dI_ref hyd
      have s3 := s2.trans (sameNew (o := .tup [.ref gA, .ref rA, z]) nT)
      have tk3 := TupK.of s3
      have e3 := upNew (o := .tup [.ref gA, .ref rA, z]) nT e2
      refine ⟨T, _, rfl, SqT.of upd_same, rfl, _, _, rfl, gA, _, rfl, tk3.sq hG, rfl, _, _, rfl, _, _, rfl, rfl, _, _, rfl, _, _, rfl, rfl, ?_⟩
      generalize upd H2 T (.tup [.ref gA, .ref rA, z]) = H3 at s3 tk3 e3 ⊢
      have hzd3 := hzd.lasts (.of s3)
      refine ⟨z, rfl, z, .ty "tuple", _, _, _, rfl, .ty _, hzd3.ty, kit_tup dj, _, rfl, ite2 (fun h2 => ?_) (fun h2 => ?_)⟩
      · refine iteT ?_
        rw [fail hrow hdj (by
          cases dj with
          | tuple ds => simp [isTup] at h2
          | _ => rfl)] at q
        exact q _ s3
      obtain ⟨es, rfl⟩ : ∃ es, dj = .tuple es := by
        cases dj with
        | tuple ds => exact ⟨ds, rfl⟩
        | _ => simp [isTup] at h2
      obtain ⟨tA, us, rfl, hTb, hus⟩ := dq_sq hzd
      have hTb3 := tk3.sq hTb
      have lu0 : us.length = es.length := DqAll.len hus
      by_cases nl2 : es.length = row.length
      rotate_left
      · rw [fail hrow hdj (by simp only [tableD, Bool.and_eq_false_iff]; exact .inl (decide_eq_false nl2))] at q
        refine ⟨.ref tA, rfl, tA, _, rfl, .inr hTb3, .ref rA, rfl, rA, _, rfl, .inr (tk3.sq hR), rfl, _, rfl, iteTT (by simp; omega) ?_⟩
        exact q _ s3
      have lu : us.length = row.length := by omega
      have et' : (ts.map tabRows).getD j [] = es.map rowD := by rw [List.getD_eq_getElem?_getD, List.getElem?_map, hdj]; rfl
      refine ⟨.ref tA, rfl, tA, _, rfl, .inr hTb3, .ref rA, rfl, rA, _, rfl, .inr (tk3.sq hR), rfl, _, rfl, iteNS (by rw [lu, List.length_map]) ?_⟩
      refine ⟨.ref rA, rfl, .ref tA, rfl, rA, tA, _, us, rfl, .inr ⟨tk3.sq hR, hTb3, for_it (walk_zipT (K := K) (a := rA) (b := tA) (xs := row.map V.int) (ys := us) rfl)
        (fun s σ H4 => ∃ (y8 y9 y10 y11 : Option V) (ls : List Int), σ = [some (.ref i), some (.ref a), some (.ref vA), some (.ref L), some (.ref pA), some (.int g.2), some (.ref rA), some (.ref tA), y8, y9, y10, y11, none, none] ∧ Same H H4 ∧ H4 L = some (.lst (ls.map V.int)) ∧ LdAt cs gs (ts.map tabRows) j s ls ∧ ∀ (m : Nat) (n : Int) (e : PyData), m < s → row[m]? = some n → es[m]? = some e → splitD (row.length : Int) n e = true)
        ⟨_, _, _, _, ls, rfl, s3, e3, hL, fun m n e h => absurd h (Nat.not_lt_zero m)⟩ ?_ ?_ ?_⟩⟩
      · rintro s σ H4 _ ⟨_, _, _, _, ls, rfl, s4, e4, hL, hS⟩
        exact ⟨(TupK.of s4).sq hR, (TupK.of s4).sq hTb⟩
      · rintro s w' σ H4 H5 hls ⟨y8, y9, y10, y11, ls, rfl, s4, e4, hL, hS⟩ ⟨T2, x2, y2, rfl, nT2, rfl, hx2, hy2⟩
        have hx2 : (row.map V.int)[s]? = some x2 := hx2
        have hy2 : us[s]? = some y2 := hy2
        rw [List.getElem?_map] at hx2
        obtain ⟨nn, hnn, rfl⟩ := Option.map_eq_some_iff.mp hx2
        obtain ⟨ds, hds, hyd2⟩ := DqAll.at hus hy2
        have hsl := (List.getElem?_eq_some_iff.mp hnn).1
        have failR : splitD (row.length : Int) nn ds = false → changeD cs gs rows (.tuple ts) = false := fun hb => fail hrow hdj (Bool.eq_false_iff.mpr fun hz => by
          have := table_at hz hnn hds
          rw [hb] at this
          cases this)
        have s5 := s4.trans (sameNew (o := .tup [.int nn, y2]) nT2)
        have e5 := upNew (o := .tup [.int nn, y2]) nT2 e4
        refine ⟨T2, _, rfl, SqT.of upd_same, rfl, _, _, rfl, _, _, rfl, rfl, ?_⟩
        generalize upd H4 T2 (.tup [.int nn, y2]) = H5 at s5 e5 ⊢
        have s05 := s5
        have tk5 := TupK.of s05
        have hyd5 := hyd2.lasts (.of s5)
        refine ⟨y2, rfl, y2, .ty "tuple", _, _, _, rfl, .ty _, hyd5.ty, kit_tup ds, _, rfl, ite2 (fun h3 => ?_) (fun h3 => ?_)⟩
        · refine iteT ?_
          rw [failR (Bool.eq_false_iff.mpr fun hz => by
            obtain ⟨es', rfl, _⟩ := split_tup hz
            simp [isTup] at h3)] at q
          exact q _ s05
        obtain ⟨fs, rfl⟩ : ∃ fs, ds = .tuple fs := by
          cases ds with
          | tuple ds => exact ⟨ds, rfl⟩
          | _ => simp [isTup] at h3
        obtain ⟨wA, ws, rfl, hW0, hws⟩ := dq_sq hyd2
        have hW := tk5.sq hW0
        have lw0 : ws.length = fs.length := DqAll.len hws
        by_cases nl3 : fs.length = row.length
        rotate_left
        · rw [failR (Bool.eq_false_iff.mpr fun hz => by
            obtain ⟨es', e, hl⟩ := split_tup hz
            cases e
            omega)] at q
          refine ⟨.ref wA, rfl, wA, _, rfl, .inr hW, .ref rA, rfl, rA, _, rfl, .inr (tk5.sq hR), rfl, _, rfl, iteTT (by simp; omega) ?_⟩
          exact q _ s05
        refine ⟨.ref wA, rfl, wA, _, rfl, .inr hW, .ref rA, rfl, rA, _, rfl, .inr (tk5.sq hR), rfl, _, rfl, iteNS (by rw [lw0, nl3, List.length_map]) ?_⟩
        have hr7 : row.length ≤ 7 := by have := hgj.1; omega
        -- the items
        refine ⟨.ref wA, rfl, wA, rfl, ⟨_, hW⟩, fun D nD => lc_it (walk_tup (K := K) (a := wA) (xs := ws)) (LcP H5 D (ws.zip fs) (fun z => if badI z.2 = true then some (.int 1) else none)) (.start nD) (fun k H6 _ h => sqS h.1 hW) ?_ ?_⟩
        · rintro k y H6 H7 hk hLc ⟨rfl, hy⟩
          have hy : ws[k]? = some y := hy
          obtain ⟨f1, hf1, hyf⟩ := DqAll.at hws hy
          have hyf := hyf.lasts (.of (s5.trans hLc.1))
          have hkl := (List.getElem?_eq_some_iff.mp hy).1
          have hzz : (ws.zip fs)[k]? = some (y, f1) := List.getElem?_zip_eq_some.mpr ⟨hy, hf1⟩
          refine ⟨rfl, y, rfl, y, .ty "int", _, _, _, rfl, .ty _, hyf.ty, kit_int f1, _, rfl, ite2 (fun h4 => ?_) (fun h4 => ?_)⟩
          · refine iteT ?_
            exact hLc.yes nD (Same.refl _) hzz (if_pos (by simp only [badI]; rw [h4]; rfl)) (by omega)
          have h4 : isInt f1 = true := by simpa using h4
          refine ⟨y, rfl, y, .ty "bool", _, _, _, rfl, .ty _, hyf.ty, kit_bool f1, _, rfl, ite2 (fun h5 => ?_) (fun h5 => ?_)⟩
          · refine iteT ?_
            exact hLc.yes nD (Same.refl _) hzz (if_pos (by simp only [badI]; rw [h5]; simp)) (by omega)
          obtain ⟨it, rfl⟩ : ∃ it, f1 = .int it := by
            cases f1 with
            | int it => exact ⟨it, rfl⟩
            | _ => first | (simp [isInt] at h4; done) | (simp [isBool] at h5; done)
          obtain rfl : y = .int it := by cases hyf; rfl
          refine ⟨.int it, rfl, _, _, rfl, rfl, _, rfl, ite2 (fun h6 => ?_) (fun h6 => ?_)⟩
          · have h6 : it < 0 := by simpa using h6
            exact hLc.yes nD (Same.refl _) hzz (if_pos (by simp [badI, isInt, isBool, h6])) (by omega)
          · have h6 : ¬ it < 0 := by simpa using h6
            exact hLc.no (Same.refl _) hzz (if_neg (by simp [badI, isInt, isBool]; omega))
        rintro H6 hLc
        have e6 := hLc.done (by rw [List.length_zip]; omega)
        have s6 := hLc.1
        refine ⟨Nat.zero_le _, fun E nE => ⟨D, E, _, rfl, rfl, SqL.of (upNew nE e6), SqL.of upd_same, _, rfl, ?_⟩⟩
        have s56 := s6.trans (sameNew (o := .lst []) nE)
        have s7 := s05.trans s56
        have e7 := s56 _ _ e5
        have hW7 := sqS s56 hW
        generalize upd H6 E (.lst []) = H7 at s7 e7 hW7 s56 ⊢
        have tk7 := TupK.of s7
        refine ite2 (fun h4 => ?_) (fun h4 => ?_)
        · rw [failR (by
            refine Bool.eq_false_iff.mpr fun hz => ?_
            have hall : (ws.zip fs).filterMap (fun z => if badI z.2 = true then some (V.int 1) else none) = [] := by
              rw [List.filterMap_eq_nil_iff]
              rintro ⟨w1, f1⟩ hm
              have hmf := (List.of_mem_zip hm).2
              rw [if_neg]
              intro hb
              rw [bad_split hmf hb] at hz
              cases hz
            rw [hall] at h4
            cases h4)] at q
          exact q _ s7
        have hgood : ∀ f ∈ fs, badI f = false := fun f hf => by
          obtain ⟨k, hk⟩ := List.getElem?_of_mem hf
          have hkl := (List.getElem?_eq_some_iff.mp hk).1
          have h4 : (ws.zip fs).filterMap (fun z => if badI z.2 = true then some (V.int 1) else none) = [] := by simpa using h4
          rw [List.filterMap_eq_nil_iff] at h4
          have hkw : k < ws.length := by omega
          have := h4 (ws[k], f) (List.mem_of_getElem? (i := k) (List.getElem?_zip_eq_some.mpr ⟨List.getElem?_eq_getElem hkw, hk⟩))
          refine Bool.eq_false_iff.mpr fun hb => ?_
          rw [if_pos hb] at this
          cases this
        obtain ⟨rw', rfl, hnn0⟩ := good_ints hgood
        obtain rfl : ws = rw'.map V.int := dqInts hws
        have lrw : rw'.length = row.length := by rw [List.length_map] at nl3; exact nl3
        by_cases hsum : rw'.sum = nn
        rotate_left
        · rw [failR (Bool.eq_false_iff.mpr fun hz => hsum ((split_iff (zs := rw')).mp hz).2.2)] at q
          refine ⟨.ref wA, rfl, wA, rw', rfl, hW7, .int nn, rfl, rfl, _, rfl, iteTT (by simp; exact hsum) ?_⟩
          exact q _ s7
        have hsplit : splitD (row.length : Int) nn (.tuple (rw'.map PyData.int)) = true := (split_iff (zs := rw')).mpr ⟨lrw, hnn0, hsum⟩
        refine ⟨.ref wA, rfl, wA, rw', rfl, hW7, .int nn, rfl, rfl, _, rfl, iteNS (by rw [hsum]) ?_⟩
        have ew : ((ts.map tabRows).getD j []).getD s [] = rw' := by
          rw [et', List.getD_eq_getElem?_getD, List.getElem?_map, hds]
          show rowD (dI rw') = rw'
          exact rowD_dI _
        have wl : rw'.length = g.1.length + 1 := by rw [lrw]; exact shj.1
        refine ⟨.ref pA, rfl, .ref wA, rfl, pA, wA, _, _, rfl, .inr ⟨tk7.sq hP, hW7, for_it (walk_zipT (K := K) (a := pA) (b := wA) (xs := g.1.map V.int) (ys := rw'.map V.int) rfl)
          (fun m σ H8 => ∃ (y10 y11 : Option V), σ = [some (.ref i), some (.ref a), some (.ref vA), some (.ref L), some (.ref pA), some (.int g.2), some (.ref rA), some (.ref tA), some (.int nn), some (.ref wA), y10, y11, none, none] ∧ Same H H8 ∧ H8 L = some (.lst ((rowLoads ls (g.1.take m) (rw'.take m)).map V.int)))
          ⟨y10, y11, rfl, s7, by simpa [rowLoads] using e7⟩ ?_ ?_ ?_⟩⟩
        · rintro m σ H8 _ ⟨_, _, rfl, s8, e8⟩
          exact ⟨(TupK.of s8).sq hP, (TupK.of s8).sq hW0⟩
        · rintro m u σ H8 H9 hm ⟨y10, y11, rfl, s8, e8⟩ ⟨T3, x3, y3, rfl, nT3, rfl, hx3, hy3⟩
          have hx3 : (g.1.map V.int)[m]? = some x3 := hx3
          have hy3 : (rw'.map V.int)[m]? = some y3 := hy3
          rw [List.getElem?_map] at hx3 hy3
          obtain ⟨pp, hp3, rfl⟩ := Option.map_eq_some_iff.mp hx3
          obtain ⟨n3, hn3, rfl⟩ := Option.map_eq_some_iff.mp hy3
          have e9 := upNew (o := .tup [.int pp, .int n3]) nT3 e8
          have hpr := hgj.2.1 pp (List.mem_of_getElem? hp3)
          obtain ⟨pn, rfl⟩ : ∃ pn : Nat, pp = pn := ⟨pp.toNat, by omega⟩
          have hrl := rowLoads_take (ls := ls) hp3 hn3
          generalize hcur : rowLoads ls (g.1.take m) (rw'.take m) = cur at e8 e9 hrl
          have hcl : cur.length = cs.length := by rw [← hcur, rowLoads_len]; exact hL.len
          have hpl : pn < cur.length := by omega
          refine ⟨T3, _, rfl, SqT.of upd_same, rfl, _, _, rfl, _, _, rfl, rfl, ?_⟩
          refine ⟨.ref L, rfl, .int pn, rfl, L, _, pn, .int cur[pn], rfl, rfl, SqL.of e9, atI_nat (by rw [List.getElem?_map, List.getElem?_eq_getElem hpl]; rfl), .int n3, rfl, _, _, rfl, rfl, .ref L, rfl, .int pn, rfl, L, _, _, pn, rfl, rfl, e9, ixN_nat (by rw [List.length_map]; exact hpl), ?_⟩
          refine ⟨_, _, rfl, samePut (s8.trans (sameNew nT3)) fL, ?_⟩
          rw [upd_same, hrl]
          unfold addAt
          rw [Int.toNat_natCast, List.getD_eq_getElem?_getD, List.getElem?_eq_getElem hpl, List.map_set]
          rfl
        · rintro σ H8 ⟨y10, y11, rfl, s8, e8⟩
          rw [List.length_map, List.length_map, rowLoads_all] at e8
          refine ⟨_, _, _, _, _, rfl, s8, e8, hL.row (by rw [eg']) ew hgj.2.1 wl, fun m n e hm h1 h2 => ?_⟩
          rcases Nat.lt_succ_iff_lt_or_eq.mp hm with hm | rfl
          · exact hS m n e hm h1 h2
          · rw [hnn] at h1
            rw [hds] at h2
            cases h1
            cases h2
            exact hsplit
      · rintro σ H4 ⟨y8, y9, y10, y11, ls2, rfl, s4, e4, hL2, hS⟩
        have hm : min (row.map V.int).length us.length = row.length := by rw [List.length_map, lu, Nat.min_self]
        rw [hm] at hL2 hS
        have tt : tableD row (.tuple es) = true := table_all nl2 fun s n e hs h1 h2 => hS s n e hs h1 h2
        have tO : TabOk ((gs.getD j ([], 0)).1.length + 1) row ((ts.map tabRows).getD j []) := by
          rw [eg', et']
          exact tab_ok shj.1 tt
        refine ⟨_, _, _, _, _, _, _, _, _, rfl, s4, e4, LdAt.tab1 tO (by rw [eg', ← shj.1]; exact hL2), fun m row' d hm h1 h2 => ?_⟩
        rcases Nat.lt_succ_iff_lt_or_eq.mp hm with hm | rfl
        · exact hT m row' d hm h1 h2
        · rw [hrow] at h1
          rw [hdj] at h2
          cases h1
          cases h2
          exact tt
    · rintro σ H2 ⟨y4, y5, y6, y7, y8, y9, y10, y11, ls, rfl, s2, e2, hL, hT⟩
      have hi2 := (TupK.of s2).sq hi
      have hc2 := (TupK.of s2).sq hc
      have ll := hL.len
      refine ⟨.ref L, rfl, .ref i, rfl, i, _, 0, .ref ca, rfl, rfl, hi2, atI_nat (j := 0) rfl, L, ca, _, _, rfl, SqL.of e2, hc2, fun D nD => lc_it (walk_zipM (K := K) (a := L) (b := ca) (xs := ls.map V.int) (ys := cs.map V.int) rfl) (LcP H2 D (ls.zip cs) (fun q => if decide (q.2 < q.1) = true then some (.int 1) else none)) (.start nD) (fun k H3 _ h => ⟨SqL.of (h.1 _ _ e2), (TupK.of h.1).sq hc2⟩) ?_ ?_⟩
      · rintro k v' H3 H4 hk hLc ⟨T, x, y, rfl, nT, rfl, hx, hy⟩
        have hx : (ls.map V.int)[k]? = some x := hx
        have hy : (cs.map V.int)[k]? = some y := hy
        rw [List.getElem?_map] at hx hy
        obtain ⟨l1, hl1, rfl⟩ := Option.map_eq_some_iff.mp hx
        obtain ⟨c1, hc1, rfl⟩ := Option.map_eq_some_iff.mp hy
        have hkc := (List.getElem?_eq_some_iff.mp hc1).1
        have hzz : (ls.zip cs)[k]? = some (l1, c1) := List.getElem?_zip_eq_some.mpr ⟨hl1, hc1⟩
        refine ⟨T, _, rfl, SqT.of upd_same, rfl, _, _, rfl, _, _, rfl, rfl, rfl, .int l1, rfl, .int c1, rfl, _, _, rfl, rfl, _, rfl, ite2 (fun h => ?_) (fun h => ?_)⟩
        · exact hLc.yes nD (sameNew nT) hzz (if_pos h) (by omega)
        · exact hLc.no (sameNew nT) hzz (if_neg h)
      rintro H3 hLc
      have e3 := hLc.done (by rw [List.length_zip, List.length_map, List.length_map]; omega)
      have hE := change_end hM nlen hT hL
      refine ⟨Nat.zero_le _, fun E nE => ⟨D, E, _, rfl, rfl, SqL.of (upNew nE e3), SqL.of upd_same, ?_⟩⟩
      rw [hE]
      exact q _ (s2.trans (hLc.1.trans (sameNew nE)))
end
end Pv

namespace Pv
open PySem PySem.Spec PyProof.Rows L2
abbrev sLS : Stmt := topS 41
theorem scLS : FnScope ["_law_change", "_law_total", "_law_table", "_law_option", "_law_row", "_law_other", "_law_number"] ["_law_change"] (defScope sLS) := ⟨rfl, rfl, rfl, by decide +kernel, rfl, by decide +kernel, by decide +kernel⟩
abbrev sDu : Stmt := topS 44
theorem scDu : FnScope ["_law_instance", "_law_assignment_here", "_law_value", "_law_number", "_law_change", "_law_prices", "_law_item"] ["_law_instance", "_law_assignment_here", "_law_value"] (defScope sDu) := ⟨rfl, rfl, rfl, by decide +kernel, rfl, by decide +kernel, by decide +kernel⟩
theorem votes_snoc {tabs : List (List (List Int))} {j : Nat} {T : List (List Int)} (h : tabs[j]? = some T) : (votesOf (tabs.take (j + 1))).sum = (votesOf (tabs.take j)).sum + ((tabVotes T).flatten).sum := by
  unfold votesOf
  rw [take_snoc h, List.map_append, List.flatten_append, List.sum_append]
  simp
section
variable {P : Program} {w : World} {K : PySem.W.Frag} {mg : Str → Option Value} {base : Heap}
def spDu (K : PySem.W.Frag) : Sp := fun vs H Q _ => ∃ (st r i a : Addr) (v : V) (cs : List Int) (gs : List Gp) (rows : List (List Int)) (d : PyData), vs = [.ref i, .ref a, v] ∧ Dp K H (.ref i) (dInst cs gs) ∧ Dp K H (.ref a) (dAsg rows) ∧ Dq K st r H v d ∧ InsOk cs gs ∧ MIn cs gs rows ∧ Shp gs rows ∧ Bd rows ∧ ∀ H', Same H H' → Q (.bl (marginD cs gs rows d)) H'
theorem dTabs_dp {K : PySem.W.Frag} {st r : Addr} {H : Hp} {v : V} {tabs : List (List (List Int))} (h : Dq K st r H v (dTabs tabs)) : Dp K H v (dTabs tabs) := Dq.to_dp (to_dTabs _) h
set_option maxHeartbeats 8000000 in
theorem ok_LS {f fLV : Addr} {fd fdLV : FuncData} (F : Fun K "_law_surplus" "_law_surplus" sLS f fd)
    (FLV : Fun K "_law_vote" "_law_vote" sLV fLV fdLV) (bLV : Binds K fdLV ["_law_option", "_law_other"] []) (gLV : mg "_law_vote" = some (.ref fLV)) (GLV : FnOk P w K mg base CX0 1 fLV fdLV ["_law_option", "_law_other"] spVo)
    (m_enumerate : mg "enumerate" = none) (m_sum : mg "sum" = none) :
    FnOk P w K mg base CX0 2 f fd ["_law_change"] (spSur K) := by
  refine F.ok scLS (fun vs H Q E h => ?_) (fun cdv A outer s H vs Q E hr h => ?_)
  · obtain ⟨a, tabs, rfl, _⟩ := h; rfl
  · obtain ⟨a, tabs, rfl, hD, hn, hsq, q⟩ := h
    refine ⟨_, pss_cons (ps_set (i := 1) scLS.nd rfl (.inl rfl) (pe_int))
      (pss_cons (ps_for PassesOwn.never rfl (pi_tup (pv 0)) (pg_name (i := 2) scLS.nd rfl (.inl rfl))
        (pss_one (ps_for PassesOwn.never rfl (pi_enumT (by rfl) m_enumerate (pa_cons (pv 2) pa_nil)) (pg_tup rfl (pgs_cons (pg_name (i := 3) scLS.nd rfl (.inr rfl)) (pgs_cons (pg_name (i := 4) scLS.nd rfl (.inl rfl)) pgs_nil)))
          (pss_one (ps_set (i := 1) scLS.nd rfl (.inl rfl) (pe_op op_add (pv 1) (pe_callB (cr_sum rfl) (by rfl) m_sum (by decide +kernel) (pa_cons (pe_lc (own := [("_law_other", 5), ("_law_number", 6)]) (g := gTup K 2 (gCons (gName 5) (gCons (gName 6) gNil))) (tt := tYes) (te := tOp (rI CMul fun i j => .int (i * j)) (tCall spVo [] E0 (tCons (tVar 3) (tCons (tVar 5) tNil))) (tVar 6)) rfl scLS.nd (pi_enumT (by rfl) m_enumerate (pa_cons (pv 4) pa_nil)) (blkOk_by (N := ["_law_change", "_law_total", "_law_table", "_law_option", "_law_row", "_law_other", "_law_number"]) (sc := defScope sLS) (by decide +kernel)) (fun _ _ _ _ _ => pg_tup rfl (pgs_cons (pg_name (i := 5) scLS.nd rfl (.inl rfl)) (pgs_cons (pg_name (i := 6) scLS.nd rfl (.inl rfl)) pgs_nil))) (fun _ _ _ _ _ => pts_nil) (fun _ _ _ _ _ => pe_op op_mul (pe_call GLV (hr.mono (by omega)) (by rfl) gLV FLV.kp bLV .nil pass0 (pa_cons (pv 3) (pa_cons (pv 5) pa_nil))) (pv 6))) pa_nil))))))))
      (pss_one (ps_ret (pv 1)))), ?_⟩
    obtain ⟨_, xs, e, ha, hx⟩ := tabs_open hD
    cases e
    have lx := DpAll.len hx
    rw [List.length_map] at lx
    refine ⟨.ref a, rfl, a, rfl, ⟨_, ha⟩, for_it (walk_tup (K := K) (a := a) (xs := xs))
      (fun j σ H2 => ∃ (y2 y3 y4 : Option V), σ = [some (.ref a), some (.int (votesOf (tabs.take j)).sum), y2, y3, y4, none, none] ∧ Same H H2)
      ⟨none, none, none, rfl, Same.refl _⟩ (fun j σ H2 _ h => by obtain ⟨_, _, _, _, s⟩ := h; exact sqS s ha) ?_ ?_⟩
    · rintro j y σ H2 H2' hlt ⟨y2, y3, y4, rfl, s2⟩ ⟨rfl, hy⟩
      have hy : xs[j]? = some y := hy
      obtain ⟨d, hd, hyd⟩ := DpAll.at hx hy
      rw [List.getElem?_map] at hd
      obtain ⟨t, ht, rfl⟩ := Option.map_eq_some_iff.mp hd
      obtain ⟨h1, h7, hrow⟩ := hsq t (List.mem_of_getElem? ht)
      obtain ⟨ta, ras, rfl, hT, hrl, hrs⟩ := tab_open hyd
      dsimp only
      refine ⟨.ref ta, rfl, ta, _, rfl, sqS s2 hT, for_it (walk_enumT (K := K) (a := ta) (xs := ras.map V.ref))
        (fun s σ H4 => ∃ (y3 y4 : Option V), σ = [some (.ref a), some (.int ((votesOf (tabs.take j)).sum + sumr s fun s' => (rowVotes s' (t.getD s' [])).sum)), some (.ref ta), y3, y4, none, none] ∧ Same H H4)
        ⟨_, _, by rw [sumr_zero, Int.add_zero]; rfl, s2⟩ (fun s σ H4 _ h => by obtain ⟨_, _, _, s'⟩ := h; exact sqS s' hT) ?_ ?_⟩
      · rintro s v' σ H4 H5 hls ⟨y3, y4, rfl, s4⟩ ⟨T, x4, y4', rfl, nT, rfl, hx4, hy4⟩
        have hx' : some (V.int (s : Nat)) = some x4 := hx4
        cases hx'
        have hy' : (ras.map V.ref)[s]? = some y4' := hy4
        rw [List.getElem?_map] at hy'
        obtain ⟨ra, hra, rfl⟩ := Option.map_eq_some_iff.mp hy'
        rw [List.length_map] at hls
        have hil : s < t.length := by omega
        have hti : t[s]? = some t[s] := List.getElem?_eq_getElem hil
        have hR := hrs s ra t[s] hra hti
        have eget : t.getD s [] = t[s] := by rw [List.getD_eq_getElem?_getD, hti]; rfl
        have hrl' := hrow t[s] (List.getElem_mem hil)
        generalize t[s] = row at hti hR eget hrl'
        have s5 := s4.trans (sameNew (o := .tup [.int (s : Nat), .ref ra]) nT)
        refine ⟨T, _, rfl, SqT.of upd_same, rfl, _, _, rfl, _, _, rfl, rfl, ?_⟩
        generalize upd H4 T (.tup [.int (s : Nat), .ref ra]) = H5 at s5 ⊢
        have hR5 := sqS s5 hR
        refine ⟨.int _, rfl, .ref ra, rfl, ra, _, rfl, hR5, fun D nD => lc_it (walk_enumT (K := K) (a := ra) (xs := row.map V.int)) (fun k H6 => Same H5 H6 ∧ H6 D = some (.lst (((rowVotes s row).take k).map V.int))) ⟨sameNew nD, upd_same⟩ (fun k H6 _ h => sqS h.1 hR5) ?_ ?_⟩
        · rintro k v2 H6 H7 hk ⟨s6, e6⟩ ⟨T2, x6, y6, rfl, nT2, rfl, hx6, hy6⟩
          have hx6 : some (V.int (k : Nat)) = some x6 := hx6
          cases hx6
          have hy6 : (row.map V.int)[k]? = some y6 := hy6
          rw [List.getElem?_map] at hy6
          obtain ⟨nn, hnn, rfl⟩ := Option.map_eq_some_iff.mp hy6
          have hkl := (List.getElem?_eq_some_iff.mp hnn).1
          have vb := vote_le (s : Int) (k : Int)
          refine ⟨T2, _, rfl, SqT.of upd_same, rfl, _, _, rfl, _, _, rfl, rfl, rfl, .int (s : Nat), rfl, .int (k : Nat), rfl, s, k, rfl, .int nn, rfl, _, _, rfl, rfl, .inl (by omega), ?_⟩
          refine ⟨_, upNew nT2 e6, ?_, samePut (s6.trans (sameNew nT2)) nD, ?_⟩
          · rw [List.length_map, List.length_take, rowVotes_len]; exact small (by omega)
          · rw [upd_same, take_snoc (rowVotes_at hnn), List.map_append, Int.mul_comm]; rfl
        rintro H6 ⟨s6, e6⟩
        rw [List.length_map, List.take_of_length_le (by rw [rowVotes_len]; exact Nat.le_refl _)] at e6
        refine ⟨D, rowVotes s row, rfl, SqL.of e6, _, _, rfl, rfl, ?_⟩
        refine ⟨some (.int (s : Nat)), some (.ref ra), ?_, s5.trans s6⟩
        rw [sumr_succ, eget, ← Int.add_assoc]
        rfl
      · rintro σ H4 ⟨y3, y4, rfl, s4⟩
        rw [List.length_map, hrl]
        exact ⟨_, _, _, by rw [votes_snoc ht, tabV_sum], s4⟩
    · rintro σ H2 ⟨y2, y3, y4, rfl, s2⟩
      rw [lx, List.take_length]
      exact ⟨_, rfl, q _ s2⟩
set_option maxHeartbeats 16000000 in
theorem ok_Du {f fLC fLS fLL : Addr} {fd fdLC fdLS fdLL : FuncData} (F : Fun K "_law_due" "_law_due" sDu f fd)
    (FLC : Fun K "_law_is_change" "_law_is_change" sLC fLC fdLC) (bLC : Binds K fdLC ["_law_instance", "_law_assignment_here", "_law_value"] []) (gLC : mg "_law_is_change" = some (.ref fLC)) (GLC : FnOk P w K mg base CX0 1 fLC fdLC ["_law_instance", "_law_assignment_here", "_law_value"] (spLD K))
    (FLS : Fun K "_law_surplus" "_law_surplus" sLS fLS fdLS) (bLS : Binds K fdLS ["_law_change"] []) (gLS : mg "_law_surplus" = some (.ref fLS)) (GLS : FnOk P w K mg base CX0 2 fLS fdLS ["_law_change"] (spSur K))
    (FLL : Fun K "_law_limit" "_law_limit" sLL fLL fdLL) (bLL : Binds K fdLL ["_law_instance", "_law_assignment_here", "_law_prices"] []) (gLL : mg "_law_limit" = some (.ref fLL)) (GLL : FnOk P w K mg base CX0 2 fLL fdLL ["_law_instance", "_law_assignment_here", "_law_prices"] (spLim K))
    (m_tuple : mg "tuple" = none) (m_isinstance : mg "isinstance" = none) (m_len : mg "len" = none) (m_int : mg "int" = none) (m_bool : mg "bool" = none) :
    FnOk P w K mg base CX0 3 f fd ["_law_instance", "_law_assignment_here", "_law_value"] (spDu K) := by
  refine F.ok scDu (fun vs H Q E h => ?_) (fun cdv A outer s H vs Q E hr h => ?_)
  · obtain ⟨st, r, i, a, v, cs, gs, rows, d, rfl, _⟩ := h; rfl
  · obtain ⟨st, r, i, a, v, cs, gs, rows, d, rfl, hI, hA, hD, ok, hM, sh, bd, q⟩ := h
    have hu64 : (A.deeper (envOfC "_law_due" (defScope sDu) s.heap.objs.size f cdv)).units + 64 < cLine := by have := hr.un; omega
    have hu0 : (A.deeper (envOfC "_law_due" (defScope sDu) s.heap.objs.size f cdv)).units < cLine := by have := hr.un; omega
    refine ⟨_, pss_cons (ps_if (PW.pt (pw_or (pt_not (pt_val (pe_callB call_isi (by rfl) m_isinstance (by decide +kernel) (pa_cons (pv 2) (pa_cons (pe_bltn (v := .ty "tuple") (by rfl) m_tuple (by decide +kernel) rfl) pa_nil))))) (pw_or1 (pt_cmpR op_ne (pe_callB call_lenQ (by rfl) m_len PySem.boot_len (pa_cons (pv 2) pa_nil)) (pe_int) (nomark _)))))
        (pss_one (ps_ret (pe_bl))) pss_nil)
      (pss_cons (ps_asg (pv 2) (pg_tup rfl (pgs_cons (pg_name (i := 3) scDu.nd rfl (.inl rfl)) (pgs_cons (pg_name (i := 4) scDu.nd rfl (.inl rfl)) (pgs_cons (pg_name (i := 5) scDu.nd rfl (.inl rfl)) pgs_nil)))))
      (pss_cons (ps_if (PW.pt (pw_or (pt_not (pt_val (pe_callB call_isi (by rfl) m_isinstance (by decide +kernel) (pa_cons (pv 3) (pa_cons (pe_bltn (v := .ty "int") (by rfl) m_int (by decide +kernel) rfl) pa_nil))))) (pw_or (pt_val (pe_callB call_isi (by rfl) m_isinstance (by decide +kernel) (pa_cons (pv 3) (pa_cons (pe_bltn (v := .ty "bool") (by rfl) m_bool (by decide +kernel) rfl) pa_nil)))) (pw_or1 (pt_not (pt_val (pe_call GLC (hr.mono (by omega)) (by rfl) gLC FLC.kp bLC .nil pass0 (pa_cons (pv 0) (pa_cons (pv 1) (pa_cons (pv 4) pa_nil))))))))))
        (pss_one (ps_ret (pe_bl))) pss_nil)
      (pss_cons (ps_if (PW.pt (pw_or (pt_not (pt_val (pe_callB call_isi (by rfl) m_isinstance (by decide +kernel) (pa_cons (pv 5) (pa_cons (pe_bltn (v := .ty "tuple") (by rfl) m_tuple (by decide +kernel) rfl) pa_nil))))) (pw_or (pt_cmpR op_ne (pe_callB call_lenQ (by rfl) m_len PySem.boot_len (pa_cons (pv 5) pa_nil)) (pe_callB call_lenQ (by rfl) m_len PySem.boot_len (pa_cons (pe_ix ix_tup (pv 0) (pe_int) (fun _ _ => rfl)) pa_nil)) (nomark _)) (pw_or1 (pt_cmpR op_ne (pe_call GLS (hr.mono (by omega)) (by rfl) gLS FLS.kp bLS .nil pass0 (pa_cons (pv 4) pa_nil)) (pv 3) (nomark _))))))
        (pss_one (ps_ret (pe_bl))) pss_nil)
      (pss_cons (ps_if (pt_cmpR (op_neNil hu0) (pe_lc (own := [("_law_item", 6)]) (g := gName 6) (tt := tOr (tNot (tB (tCB (rIsi K) (tCons (tVar 6) (tCons (tC (.ty "int")) tNil))))) (tOr (tB (tCB (rIsi K) (tCons (tVar 6) (tCons (tC (.ty "bool")) tNil)))) (tNot (tB (tChain (rI0 fun i j => .bl (decide (i ≤ j))) (rI0 fun i j => .bl (decide (i ≤ j))) (tC (.int 0)) (tVar 6) (tC (.int 2))))))) (te := tC (.int 1)) rfl scDu.nd (pi_tup (pv 5)) (blkOk_by (N := ["_law_instance", "_law_assignment_here", "_law_value", "_law_number", "_law_change", "_law_prices", "_law_item"]) (sc := defScope sDu) (by decide +kernel)) (fun _ _ _ _ _ => pg_name (i := 6) scDu.nd rfl (.inl rfl)) (fun _ _ _ _ _ => pts_one (PW.pt (pw_or (pt_not (pt_val (pe_callB call_isi (by rfl) m_isinstance (by decide +kernel) (pa_cons (pv 6) (pa_cons (pe_bltn (v := .ty "int") (by rfl) m_int (by decide +kernel) rfl) pa_nil))))) (pw_or (pt_val (pe_callB call_isi (by rfl) m_isinstance (by decide +kernel) (pa_cons (pv 6) (pa_cons (pe_bltn (v := .ty "bool") (by rfl) m_bool (by decide +kernel) rfl) pa_nil)))) (pw_or1 (pt_not (pt_chain op_le op_le (pe_int) (pv 6) (pe_int)))))))) (fun _ _ _ _ _ => pe_int)) (pe_lst (pa_nil)) (nomark _))
        (pss_one (ps_ret (pe_bl))) pss_nil)
      (pss_one (ps_ret (pe_cmpR op_eq (pe_call GLL (hr.mono (by omega)) (by rfl) gLL FLL.kp bLL .nil pass0 (pa_cons (pv 0) (pa_cons (pv 1) (pa_cons (pv 5) pa_nil)))) (pv 3) (nomark _)))))))), ?_⟩
    have hc6 := ok.c6
    have hg10 := ok.g10
    refine ⟨v, rfl, v, .ty "tuple", _, _, _, rfl, .ty _, hD.ty, kit_tup d, _, rfl, ite2 (fun h1 => ?_) (fun h1 => ?_)⟩
    · refine iteT ?_
      have : marginD cs gs rows d = false := by
        cases d with
        | tuple ds => simp [isTup] at h1
        | _ => rfl
      rw [this] at q
      exact q _ (Same.refl _)
    obtain ⟨ds, rfl⟩ : ∃ ts, d = .tuple ts := by
      cases d with
      | tuple ds => exact ⟨ds, rfl⟩
      | _ => simp [isTup] at h1
    obtain ⟨vA, xs, rfl, hv, hX⟩ := dq_sq hD
    have lx : xs.length = ds.length := DqAll.len hX
    by_cases n3 : ds.length = 3
    rotate_left
    · rw [marginD_len n3] at q
      refine ⟨.ref vA, rfl, vA, _, rfl, .inr hv, rfl, _, rfl, iteTT (by simp; omega) ?_⟩
      exact q _ (Same.refl _)
    refine ⟨.ref vA, rfl, vA, _, rfl, .inr hv, rfl, _, rfl, iteNS (by rw [lx, n3]; rfl) ?_⟩
    obtain ⟨da, db, dc, rfl⟩ : ∃ da db dc, ds = [da, db, dc] := by
      match ds, n3 with
      | [x, e, d2], _ => exact ⟨x, e, d2, rfl⟩
    cases hX with
    | cons h_a hX =>
    cases hX with
    | cons h_b hX =>
    cases hX with
    | cons h_c hX =>
    cases hX
    rename_i va vb vc
    have e0 : marginD cs gs rows (.tuple [da, db, dc]) = (wholeD da && (changeD cs gs rows db && (pricesD cs.length dc && (decide ((votesOf (tabsD db)).sum = numD da) && decide (limI cs gs rows (rowD dc) gs.length = numD da))))) := rfl
    rw [e0] at q
    refine ⟨.ref vA, rfl, vA, _, rfl, hv, rfl, _, _, rfl, _, _, rfl, _, _, rfl, rfl, ?_⟩
    refine ⟨va, rfl, va, .ty "int", _, _, _, rfl, .ty _, h_a.ty, kit_int da, _, rfl, ite2 (fun h2 => ?_) (fun h2 => ?_)⟩
    · refine iteT ?_
      have h2 : isInt da = false := by simpa using h2
      rw [show wholeD da = false by simp [wholeD, h2], Bool.false_and] at q
      exact q _ (Same.refl _)
    have h2 : isInt da = true := by simpa using h2
    refine ⟨va, rfl, va, .ty "bool", _, _, _, rfl, .ty _, h_a.ty, kit_bool da, _, rfl, ite2 (fun h3 => ?_) (fun h3 => ?_)⟩
    · refine iteT ?_
      rw [show wholeD da = false by simp [wholeD, h3], Bool.false_and] at q
      exact q _ (Same.refl _)
    have h3 : isBool da = false := by simpa using h3
    rw [show wholeD da = true by simp [wholeD, h2, h3], Bool.true_and] at q
    obtain ⟨n, rfl⟩ : ∃ n, da = .int n := by
      cases da with
      | int i => exact ⟨i, rfl⟩
      | _ => first | (simp [isInt] at h2; done) | (simp [isBool] at h3; done)
    obtain rfl : va = .int n := by cases h_a; rfl
    refine ⟨.ref i, rfl, .ref a, rfl, vb, rfl, st, r, i, a, vb, cs, gs, rows, db, rfl, hI, hA, h_b, ok, hM, fun H1 s1 => ⟨_, rfl, ite2 (fun h4 => ?_) (fun h4 => ?_)⟩⟩
    · have h4 : changeD cs gs rows db = false := by simpa using h4
      rw [h4, Bool.false_and] at q
      exact q _ s1
    have h4 : changeD cs gs rows db = true := by simpa using h4
    rw [h4, Bool.true_and] at q
    have hlen : ∀ r ∈ rows, 1 ≤ r.length ∧ r.length ≤ 7 := fun row hrow => by
      obtain ⟨j, hj⟩ := List.getElem?_of_mem hrow
      have hjl := (List.getElem?_eq_some_iff.mp hj).1
      have hjg : j < gs.length := by rw [← hM.rl]; exact hjl
      have := (hM.sh j _ row (List.getElem?_eq_getElem hjg) hj).1
      have := (ok.gp _ (List.getElem_mem hjg)).1
      omega
    obtain ⟨tbs, rfl, lb, sqb⟩ : ∃ tbs, db = dTabs tbs ∧ tbs.length = rows.length ∧ ∀ t ∈ tbs, Sqr t := by
      obtain ⟨eb, lb, sqb⟩ := changeD_tabs h4 hlen
      exact ⟨_, eb, lb, sqb⟩
    rw [tabsD_dTabs] at q
    have s1b := h_b.lasts (.of (st := st) (r := r) s1)
    have s1c := h_c.lasts (.of (st := st) (r := r) s1)
    refine ⟨vc, rfl, vc, .ty "tuple", _, _, _, rfl, .ty _, s1c.ty, kit_tup dc, _, rfl, ite2 (fun h5 => ?_) (fun h5 => ?_)⟩
    · refine iteT ?_
      have : pricesD cs.length dc = false := by
        cases dc with
        | tuple ds => simp [isTup] at h5
        | _ => rfl
      rw [this, Bool.false_and] at q
      exact q _ s1
    obtain ⟨es, rfl⟩ : ∃ ts, dc = .tuple ts := by
      cases dc with
      | tuple ds => exact ⟨ds, rfl⟩
      | _ => simp [isTup] at h5
    obtain ⟨cA, ws, rfl, hcT, hcX⟩ := dq_sq s1c
    have lw : ws.length = es.length := DqAll.len hcX
    obtain ⟨_, ca, ga, ys, e, hi, hc, hg, hgs⟩ := inst_open ((TupK.of s1).dp _ _ (to_dInst _ _) hI)
    cases e
    by_cases nl : es.length = cs.length
    rotate_left
    · have : pricesD cs.length (.tuple es) = false := by
        simp only [pricesD, Bool.and_eq_false_iff]
        exact .inl (decide_eq_false nl)
      rw [this, Bool.false_and] at q
      refine ⟨.ref cA, rfl, cA, _, rfl, .inr hcT, .ref i, rfl, i, _, 0, .ref ca, rfl, rfl, hi, atI_nat (j := 0) rfl, ca, _, rfl, .inr hc, rfl, _, rfl, iteTT (by simp; omega) ?_⟩
      refine iteT ?_
      exact q _ s1
    refine ⟨.ref cA, rfl, cA, _, rfl, .inr hcT, .ref i, rfl, i, _, 0, .ref ca, rfl, rfl, hi, atI_nat (j := 0) rfl, ca, _, rfl, .inr hc, rfl, _, rfl, iteNS (by rw [lw, nl, List.length_map]) ?_⟩
    have s1b' := dTabs_dp s1b
    obtain ⟨bA, zs, rfl, _, _⟩ := tabs_open s1b'
    refine ⟨.ref bA, rfl, bA, tbs, rfl, s1b', by rw [lb, hM.rl]; omega, sqb, fun H2 s2 => ?_⟩
    have s02 := s1.trans s2
    by_cases hv' : (votesOf tbs).sum = n
    rotate_left
    · have : decide ((votesOf tbs).sum = numD (.int n)) = false := decide_eq_false hv'
      rw [this, Bool.false_and, Bool.and_false] at q
      refine ⟨.int n, rfl, rfl, _, rfl, iteTT (by simp; exact hv') ?_⟩
      exact q _ s02
    have : decide ((votesOf tbs).sum = numD (.int n)) = true := decide_eq_true hv'
    rw [this, Bool.true_and] at q
    refine ⟨.int n, rfl, rfl, _, rfl, iteNS (by rw [hv']) ?_⟩
    have hcT2 := sqS s2 hcT
    refine ⟨.ref cA, rfl, cA, rfl, ⟨_, hcT2⟩, fun D nD => lc_it (walk_tup (K := K) (a := cA) (xs := ws)) (LcP H2 D (ws.zip es) (fun z => if (!withinD 0 2 z.2) = true then some (.int 1) else none)) (.start nD) (fun k H6 _ h => sqS h.1 hcT2) ?_ ?_⟩
    · rintro k y H6 H7 hk hLc ⟨rfl, hy⟩
      have hy : ws[k]? = some y := hy
      obtain ⟨f1, hf1, hyf⟩ := DqAll.at hcX hy
      have hyf := hyf.lasts (.of (s2.trans hLc.1))
      have hkl := (List.getElem?_eq_some_iff.mp hy).1
      have hzz : (ws.zip es)[k]? = some (y, f1) := List.getElem?_zip_eq_some.mpr ⟨hy, hf1⟩
      refine ⟨rfl, y, rfl, y, .ty "int", _, _, _, rfl, .ty _, hyf.ty, kit_int f1, _, rfl, ite2 (fun h4 => ?_) (fun h4 => ?_)⟩
      · refine iteT ?_
        exact hLc.yes nD (Same.refl _) hzz (if_pos (by
          cases f1 with
          | int i => simp [isInt] at h4
          | _ => rfl)) (by omega)
      have h4 : isInt f1 = true := by simpa using h4
      refine ⟨y, rfl, y, .ty "bool", _, _, _, rfl, .ty _, hyf.ty, kit_bool f1, _, rfl, ite2 (fun h5 => ?_) (fun h5 => ?_)⟩
      · refine iteT ?_
        exact hLc.yes nD (Same.refl _) hzz (if_pos (by
          cases f1 with
          | int i => simp [isBool] at h5
          | _ => rfl)) (by omega)
      obtain ⟨it, rfl⟩ : ∃ it, f1 = .int it := by
        cases f1 with
        | int it => exact ⟨it, rfl⟩
        | _ => first | (simp [isInt] at h4; done) | (simp [isBool] at h5; done)
      obtain rfl : y = .int it := by cases hyf; rfl
      refine ⟨.int it, rfl, _, _, rfl, rfl, _, rfl, ite2 (fun h6 => ?_) (fun h6 => ?_)⟩
      · refine ⟨_, _, rfl, rfl, _, rfl, ite2 (fun h7 => ?_) (fun h7 => ?_)⟩
        · have h7 : ¬ it ≤ 2 := by simpa using h7
          exact hLc.yes nD (Same.refl _) hzz (if_pos (by simp [withinD]; omega)) (by omega)
        · have h6 : 0 ≤ it := by simpa using h6
          have h7 : it ≤ 2 := by simpa using h7
          exact hLc.no (Same.refl _) hzz (if_neg (by simp [withinD]; omega))
      · have h6 : ¬ 0 ≤ it := by simpa using h6
        refine ⟨_, rfl, iteT ?_⟩
        exact hLc.yes nD (Same.refl _) hzz (if_pos (by simp [withinD]; omega)) (by omega)
    rintro H3 hLc
    have e3 := hLc.done (by rw [List.length_zip]; omega)
    refine ⟨Nat.zero_le _, fun E nE => ⟨D, E, _, rfl, rfl, SqL.of (upNew nE e3), SqL.of upd_same, _, rfl, ?_⟩⟩
    have s3 := s02.trans (hLc.1.trans (sameNew (o := .lst []) nE))
    have s24 : Same H2 (upd H3 E (.lst [])) := hLc.1.trans (sameNew (o := .lst []) nE)
    generalize upd H3 E (.lst []) = H4 at s3 s24 ⊢
    refine ite2 (fun h5 => ?_) (fun h5 => ?_)
    · have : pricesD cs.length (.tuple es) = false := by
        refine Bool.eq_false_iff.mpr fun hz => ?_
        have hz : decide (es.length = cs.length) = true ∧ es.all (withinD 0 2) = true := by simpa only [pricesD, Bool.and_eq_true] using hz
        have hall : (ws.zip es).filterMap (fun z => if (!withinD 0 2 z.2) = true then some (V.int 1) else none) = [] := by
          rw [List.filterMap_eq_nil_iff]
          rintro ⟨w1, f1⟩ hm
          have hmf := List.all_eq_true.mp hz.2 _ (List.of_mem_zip hm).2
          rw [if_neg (by rw [hmf]; decide)]
        rw [hall] at h5
        cases h5
      rw [this, Bool.false_and] at q
      exact q _ s3
    have hw : es.all (withinD 0 2) = true := by
      rw [List.all_eq_true]
      intro f hf
      obtain ⟨k, hk⟩ := List.getElem?_of_mem hf
      have hkl := (List.getElem?_eq_some_iff.mp hk).1
      have hkw : k < ws.length := by omega
      have h5 : (ws.zip es).filterMap (fun z => if (!withinD 0 2 z.2) = true then some (V.int 1) else none) = [] := by simpa using h5
      rw [List.filterMap_eq_nil_iff] at h5
      have := h5 (ws[k], f) (List.mem_of_getElem? (i := k) (List.getElem?_zip_eq_some.mpr ⟨List.getElem?_eq_getElem hkw, hk⟩))
      cases hb : withinD 0 2 f with
      | true => rfl
      | false =>
        dsimp only at this
        rw [hb, if_pos (by rfl)] at this
        cases this
    obtain ⟨zs', rfl, hzs⟩ := within_ints hw
    obtain rfl : ws = zs'.map V.int := dqInts hcX
    have hlz : zs'.length = cs.length := by rw [List.length_map] at nl; exact nl
    have hpr : pricesD cs.length (.tuple (zs'.map PyData.int)) = true := by
      simp only [pricesD, Bool.and_eq_true]
      exact ⟨decide_eq_true nl, hw⟩
    have hrow : rowD (.tuple (zs'.map PyData.int)) = zs' := rowD_dI zs'
    rw [hpr, Bool.true_and, hrow] at q
    refine ⟨.ref i, rfl, .ref a, rfl, .ref cA, rfl, i, a, cA, cs, gs, rows, zs', rfl, (TupK.of s3).dp _ _ (to_dInst _ _) hI, ok, (TupK.of s3).dp _ _ (to_dAsg _) hA, sh, bd, sqS s24 hcT2, hlz, fun H7 s7 => ⟨.int n, rfl, rfl, ?_⟩⟩
    have := q _ (s3.trans s7)
    have e : decide (limI cs gs rows zs' gs.length = numD (.int n)) = decide (V.int (limI cs gs rows zs' gs.length) = V.int n) := by
      rw [decide_eq_decide]
      simp [numD]
    rw [e] at this
    exact this
end
end Pv

namespace Pv
open PySem PySem.Spec PyProof.Rows L2
open PySem.SeqAt AutoSeq1 MeetsSeq PySem.W
/-! a value of any kind against a text -/
theorem str_eq_declines_dict (b : Str) (u : Tok) (l : Addr) (es : Array DictEntry) (n : Nat) (dd : Option Addr) (sl : Array (Option Value)) :
    Meets (Builtin.«str.__eq__» ⟨[.str b u, .ref l], []⟩) (fun _ R s => s.heap.get? l = some { cls := .type "dict", dict := dd, data := .dict es n, slots := sl } ∧ R (.ok (.ret .notImplemented)) s) :=
  .of_wp fun prog w A R s h => by obtain ⟨hp, g, d, tk, os⟩ := s; obtain ⟨hl, h⟩ := h; wp_walk using wpAny_loadPart' hl, wpAny_load hl; exact ⟨_, rfl, h⟩
theorem rc_dict_str {A : Around} {s : Shared} {l : Addr} {es : Array DictEntry} {n : Nat} {dd : Option Addr} {sl : Array (Option Value)} (b : Str) (u : Tok) (ho : s.heap.get? l = some { cls := .type "dict", dict := dd, data := .dict es n, slots := sl }) (hu : A.units < cLine) : RcAt A s (.ref l) (.str b u) false := fun prog w E Q h => by
  have da : s.TypeIs (.ref l) "dict" := ⟨_, ho, rfl⟩
  refine rc_eq_decline_or (k := false) da (typeIs_str s b u) (by decide) F.sub_str_dict F.slot_dict_eq F.slot_str_eq_refl
    (fun _ hq => ?_)
    (fun _ hq => call_meets F.slot_str_eq_refl (typeIs_str s b u) F.entry_str_eq (F.args_str_eq_2 _ _) (str_eq_declines_dict b u l es n dd sl) ⟨ho, hq⟩)
    (fun _ hq => wpAny_of_eq (rfl : isSame (.ref l) (.str b u) = pure false) hq) (.inr hu) h
  refine wpAny_call_entry PySem.F.slot_dict_eq da PySem.F.entry_dict_eq ?_ (PySem.F.args_dict_eq_2 _ _)
  show wpAny _ _ (Builtin.Dict.dictSlotArgs "__eq__" ⟨[.ref l, .str b u], []⟩ >>= _) _ _ s
  refine wpAny_bind ?_
  unfold Builtin.Dict.dictSlotArgs
  refine wpAny_bind (wpAny_notOrdered_dict da ?_)
  show wpAny _ _ (pure (Value.ref l, Value.str b u)) _ _ s
  refine wpAny_pure ?_
  refine wpAny_bind (wpAny_isInstance (T := "str") (typeIs_str s b u) PySem.F.sub_str_dict ?_)
  simp only [Bool.not_false, if_true]
  refine wpAny_bind (wpAny_rule ?_)
  exact wpAny_pure ⟨_, rfl, hq⟩

def isTx (d : PyData) (x : Str) : Bool := match d with
  | .str y => decide (y = x)
  | _ => false
def rEqTx (K : PySem.W.Frag) : R2 := fun x y H Q => ∃ (st r : Addr) (d : PyData) (t : Str), Dq K st r H x d ∧ y = .str t ∧ Q (.bl (isTx d t)) H
section
variable {X : Cx}
theorem op_eqTx (hu : X.A.units < cLine) : OpR X (compareOp .Eq) (rEqTx X.K) := by
  intro pins s σ H x y v u Q I rx ry h
  obtain ⟨st, r, d, t, hd, rfl, q⟩ := h
  cases hd with
  | non => exact op_eq pins s σ H _ _ v u Q I rx ry ⟨rfl, by simpa [isTx] using q⟩
  | bl b => exact op_eq pins s σ H _ _ v u Q I rx ry ⟨rfl, by simpa [isTx] using q⟩
  | int i => exact op_eq pins s σ H _ _ v u Q I rx ry ⟨rfl, by simpa [isTx] using q⟩
  | str x => exact op_eq pins s σ H _ _ v u Q I rx ry ⟨rfl, by simpa [isTx] using q⟩
  | lst h1 h2 h3 h4 h5 =>
    obtain ⟨as, rd, _⟩ := Dq.reads I _ _ v (.lst h1 h2 h3 h4 h5) rx
    cases rd with
    | list g1 g2 g3 g4 =>
      obtain ⟨tk, rfl⟩ := ry
      exact RcAt.list_str t tk ⟨_, g1, g2, _, g3⟩ hu _ _ _ _ (fin_bl I q rfl)
  | tup h1 h2 =>
    obtain ⟨as, rd, _⟩ := Dq.reads I _ _ v (.tup h1 h2) rx
    cases rd with
    | tuple g1 g2 g3 g4 =>
      obtain ⟨tk, rfl⟩ := ry
      exact RcAt.tuple_str t tk ⟨_, g1, g2, _, g3⟩ hu _ _ _ _ (fin_bl I q rfl)
  | dct h1 =>
    obtain ⟨as, rd, _⟩ := Dq.reads (st := st) (r := r) I _ _ v (.dct h1) rx
    cases rd with
    | @dict a o es n kvs as bs g1 g2 g3 g4 g5 =>
      obtain ⟨tk, rfl⟩ := ry
      obtain ⟨cls, dd, data, sl⟩ := o
      simp only at g2 g3
      subst g2 g3
      exact rc_dict_str t tk g1 hu _ _ _ _ (fin_bl I q rfl)
end
end Pv

namespace Pv
open PySem PySem.Spec PyProof.Rows L2 SX
/-! texts: the rules under short names, and the text of a whole number -/
def rJnS (K : PySem.W.Frag) : V → List V → Hp → VK → Prop := fun x xs H Q => ∃ a p, ∃ ys : List Str, x = .str a ∧ xs = [.ref p] ∧ (SqL K H p (ys.map V.str) ∨ SqT K H p (ys.map V.str)) ∧ (ys.map (·.length)).sum + ys.length * a.length ≤ 16777216 ∧ Q (.str (Txt.join a ys)) H
def rSpS : V → List V → Hp → VK → Prop := fun x xs H Q => ∃ a b, x = .str a ∧ xs = [.str b] ∧ (b.length == 0) = false ∧ a.length + 2 ≤ sizeLine ∧ rNewStrs (Txt.split a b) H Q
def rTxt0 (g : Str → Bool) : V → List V → Hp → VK → Prop := fun x xs H Q => ∃ a, x = .str a ∧ xs = [] ∧ True ∧ Q (.bl (g a)) H
def rTxt1 (g : Str → Str → Bool) : V → List V → Hp → VK → Prop := fun x xs H Q => ∃ a b, x = .str a ∧ xs = [.str b] ∧ Q (.bl (g a b)) H
def rStrI : RC := fun xs H Q => ∃ i, xs = [.int i] ∧ i.natAbs.log2 < 1920 ∧ Q (.str (toString i)) H
def rIntS : RC := fun xs H Q => ∃ a n, xs = [.str a] ∧ PySem.intText? a = some n ∧ a.length ≤ 640 ∧ Q (.int n) H
def rLenS : RC := fun xs H Q => ∃ z, xs = [.str z] ∧ z.length ≤ sizeLine ∧ Q (.int z.length) H
section
variable {X : Cx}
theorem mt_joinQ : MtR X "str.join" (rJnS X.K) := mt_join
theorem mt_splitQ : MtR X "str.split" rSpS := mt_split
theorem mt_isasciiQ : MtR X "str.isascii" (rTxt0 Txt.isascii) := mt_isascii
theorem mt_isdigitQ : MtR X "str.isdigit" (rTxt0 Txt.isdigit) := mt_isdigit
theorem mt_startswithQ : MtR X "str.startswith" (rTxt1 Txt.startswith) := mt_startswith
theorem mt_endswithQ : MtR X "str.endswith" (rTxt1 Txt.endswith) := mt_endswith
theorem call_strQ : CallR X (.type "str") rStrI := call_str_int
theorem call_intQ : CallR X (.type "int") rIntS := call_int_str
theorem call_lenS : CallR X (.builtin "len") rLenS := call_len_str
end
/-- the signs of a number's text -/
def numT (i : Int) : List Nat := TL.numL i.toNat
theorem num_T {i : Int} (h : 0 ≤ i) : (Str.ofString (toString i)) = S (numT i) := by
  obtain ⟨n, rfl⟩ : ∃ n : Nat, i = n := ⟨i.toNat, by omega⟩
  unfold numT
  rw [Int.toNat_natCast]
  exact num_S n
theorem numT_len {i : Int} (h : i < 10 ^ 29) : (numT i).length ≤ 29 := TL.numL_len (by decide) (by
  have : (10 : Int) ^ 29 = ((10 ^ 29 : Nat) : Int) := by decide
  omega)
theorem numT_ne (i : Int) : numT i ≠ [] := TL.numL_ne _
theorem numT_free {i : Int} {s : Nat} (h : s < 48 ∨ 57 < s) : s ∉ numT i := TL.numL_free h
theorem int_log {i : Int} (h0 : 0 ≤ i) (h : i < 10 ^ 29) : i.natAbs.log2 < 1920 := by
  by_cases z : i.natAbs = 0
  · rw [z]; decide
  · exact (Nat.log2_lt z).mpr (Nat.lt_of_lt_of_le (show i.natAbs < 10 ^ 29 by omega) (by
      have : (10 : Nat) ^ 29 ≤ 2 ^ 100 := by decide
      exact Nat.le_trans this (Nat.pow_le_pow_right (by decide) (by decide))))
end Pv

namespace Pv
open PySem PySem.Spec PyProof.Rows L2
/-! bools and ints together -/
def nB (b : Bool) : Int := if b = true then 1 else 0
/-- an int or a bool, as a number -/
def IsN (x : V) (i : Int) : Prop := x = .int i ∨ ∃ b, x = .bl b ∧ i = nB b
def rAddN : R2 := fun x y H Q => ∃ i j, IsN x i ∧ y = .int j ∧ Q (.int (i + j)) H
def rSubN : R2 := fun x y H Q => ∃ i j, IsN x i ∧ y = .int j ∧ Q (.int (i - j)) H
def rEqN : R2 := fun x y H Q => ∃ i j, IsN x i ∧ y = .int j ∧ Q (.bl (decide (i = j))) H
section
variable {X : Cx}
theorem op_addN : OpR X (binaryOp .Add) rAddN := by
  intro pins s σ H x y v u Q I rx ry h
  obtain ⟨i, j, hx, rfl, q⟩ := h
  rcases hx with rfl | ⟨b, rfl, rfl⟩
  · exact op_add pins s σ H _ _ v u Q I rx ry ⟨i, j, rfl, rfl, q⟩
  · cases rx
    obtain ⟨t, rfl⟩ := ry
    exact PySem.IntBool.add_bool_int ⟨.int _, H, I.tok _, ⟨_, rfl⟩, q⟩
theorem op_subN : OpR X (binaryOp .Sub) rSubN := by
  intro pins s σ H x y v u Q I rx ry h
  obtain ⟨i, j, hx, rfl, q⟩ := h
  rcases hx with rfl | ⟨b, rfl, rfl⟩
  · exact op_sub pins s σ H _ _ v u Q I rx ry ⟨i, j, rfl, rfl, q⟩
  · cases rx
    obtain ⟨t, rfl⟩ := ry
    exact PySem.IntBool.sub_bool_int ⟨.int _, H, I.tok _, ⟨_, rfl⟩, q⟩
theorem op_eqN : OpR X (compareOp .Eq) rEqN := by
  intro pins s σ H x y v u Q I rx ry h
  obtain ⟨i, j, hx, rfl, q⟩ := h
  rcases hx with rfl | ⟨b, rfl, rfl⟩
  · refine op_eq pins s σ H _ _ v u Q I rx ry ⟨rfl, ?_⟩
    have : decide (V.int i = V.int j) = decide (i = j) := by rw [decide_eq_decide]; simp
    rw [this]; exact q
  · cases rx
    obtain ⟨t, rfl⟩ := ry
    refine PySem.SeqAt.RcAt.bool_int b j t X.prog X.w _ _ ⟨.bl _, H, I, rfl, ?_⟩
    exact q
def rStrN : RC := fun xs H Q => ∃ x, xs = [x] ∧ ((∃ i : Int, x = .int i ∧ i.natAbs.log2 < 1920 ∧ Q (.str (Str.ofString (toString i))) H) ∨ ∃ b, x = .bl b ∧ Q (.str (if b = true then "True" else "False")) H)
theorem call_strN : CallR X (.type "str") rStrN := by
  intro pins s σ H xs us Q I r h
  obtain ⟨x, rfl, h⟩ := h
  rcases h with ⟨i, rfl, h1, q⟩ | ⟨b, rfl, q⟩
  · exact call_strQ pins s σ H _ us Q I r ⟨i, rfl, h1, q⟩
  · obtain ⟨u, rfl, ru⟩ := vals1 r
    cases ru
    exact PySem.P.str_of_bool ⟨.str _, H, I.tok _, ⟨_, rfl⟩, q⟩
end
end Pv

namespace Pv
open PySem PySem.Spec PyProof.Rows L2
/-! how large data is -/
mutual
def fit (M : Nat) : PyData → Prop
  | .none => True
  | .bool _ => True
  | .int i => i.natAbs ≤ M
  | .str x => (reprText x).length ≤ 400
  | .list xs => fitAll M xs
  | .tuple xs => fitAll M xs
  | .dict kvs => (PyData.shown (.dict kvs)).length ≤ 40 ∧ PyData.showable (.dict kvs) = true
def fitAll (M : Nat) : List PyData → Prop
  | [] => True
  | x :: xs => fit M x ∧ fitAll M xs
end
mutual
def wt : PyData → Nat
  | .none => 40
  | .bool _ => 40
  | .int _ => 40
  | .str _ => 400
  | .list xs => wtAll xs + 3
  | .tuple xs => wtAll xs + 3
  | .dict _ => 40
def wtAll : List PyData → Nat
  | [] => 0
  | x :: xs => wt x + 2 + wtAll xs
end
theorem int_text {i : Int} {M : Nat} (h : i.natAbs ≤ M) (hM : M < 10 ^ 35) : (PyData.int i).showable = true ∧ (PyData.int i).shown.length ≤ 40 := by
  have h' : i.natAbs < 10 ^ 35 := by omega
  refine ⟨?_, ?_⟩
  · simp only [PyData.showable, decide_eq_true_eq]
    have : i.natAbs.log2 < 200 := by
      by_cases h0 : i.natAbs = 0
      · rw [h0]; decide
      · exact (Nat.log2_lt h0).mpr (Nat.lt_trans h' (by decide))
    omega
  · have e := int_text_length_le10 (k := 35) (by decide) h'
    show (Str.ofString (toString i)).length ≤ 40
    rw [PySem.ofString_length]
    omega
mutual
theorem fit_ok {M : Nat} (hM : M < 10 ^ 35) : ∀ {d : PyData}, fit M d → d.showable = true ∧ d.shown.length ≤ wt d
  | .none, _ => by simp only [PyData.showable, PyData.shown, wt]; decide
  | .bool b, _ => by cases b <;> (simp only [PyData.showable, PyData.shown, wt]; decide)
  | .int i, h => by
    have := int_text (i := i) (M := M) (by simpa only [fit] using h) hM
    simp only [wt]; exact this
  | .str x, h => by simp only [fit] at h; simp only [PyData.showable, PyData.shown, wt]; exact ⟨trivial, h⟩
  | .list xs, h => by
    obtain ⟨h1, h2⟩ := fitAll_ok hM (xs := xs) (by simpa only [fit] using h)
    simp only [PyData.showable, PyData.shown, wt]
    refine ⟨h1, ?_⟩
    have e := listText_len_le (PyData.shownAll xs)
    omega
  | .tuple xs, h => by
    obtain ⟨h1, h2⟩ := fitAll_ok hM (xs := xs) (by simpa only [fit] using h)
    simp only [PyData.showable, PyData.shown, wt]
    refine ⟨h1, ?_⟩
    have e := tupleText_len_le (PyData.shownAll xs)
    omega
  | .dict kvs, h => by simp only [fit] at h; simp only [wt]; exact ⟨h.2, h.1⟩
theorem fitAll_ok {M : Nat} (hM : M < 10 ^ 35) : ∀ {xs : List PyData}, fitAll M xs → PyData.showableAll xs = true ∧ ((PyData.shownAll xs).map (·.length)).sum + 2 * (PyData.shownAll xs).length ≤ wtAll xs
  | [], _ => by simp [PyData.showableAll, PyData.shownAll, wtAll]
  | x :: xs, h => by
    have h' : fit M x ∧ fitAll M xs := by simpa only [fitAll] using h
    obtain ⟨a1, a2⟩ := fit_ok hM h'.1
    obtain ⟨b1, b2⟩ := fitAll_ok hM h'.2
    refine ⟨by simp [PyData.showableAll, a1, b1], ?_⟩
    simp only [PyData.shownAll, List.map_cons, List.sum_cons, List.length_cons, wtAll]
    omega
end
mutual
theorem fit_mono {M M' : Nat} (h : M ≤ M') : ∀ {d : PyData}, fit M d → fit M' d
  | .none, _ => by simp [fit]
  | .bool _, _ => by simp [fit]
  | .int i, q => by simp only [fit] at *; omega
  | .str x, q => by simpa only [fit] using q
  | .list xs, q => by simp only [fit] at *; exact fitAll_mono h q
  | .tuple xs, q => by simp only [fit] at *; exact fitAll_mono h q
  | .dict _, q => by simpa only [fit] using q
theorem fitAll_mono {M M' : Nat} (h : M ≤ M') : ∀ {xs : List PyData}, fitAll M xs → fitAll M' xs
  | [], _ => by simp [fitAll]
  | x :: xs, q => by
    have q' : fit M x ∧ fitAll M xs := by simpa only [fitAll] using q
    simp only [fitAll]
    exact ⟨fit_mono h q'.1, fitAll_mono h q'.2⟩
end
theorem fitAll_iff {M : Nat} : ∀ {xs : List PyData}, fitAll M xs ↔ ∀ x ∈ xs, fit M x
  | [] => by simp [fitAll]
  | x :: xs => by simp [fitAll, fitAll_iff (xs := xs)]
theorem wtAll_app : ∀ (xs ys : List PyData), wtAll (xs ++ ys) = wtAll xs + wtAll ys
  | [], ys => by simp [wtAll]
  | x :: xs, ys => by simp only [List.cons_append, wtAll, wtAll_app xs ys]; omega
theorem wtAll_rev : ∀ xs : List PyData, wtAll xs.reverse = wtAll xs
  | [] => rfl
  | x :: xs => by rw [List.reverse_cons, wtAll_app, wtAll_rev xs]; simp only [wtAll]; omega
theorem wtAll_split (xs : List PyData) (n : Nat) : wtAll xs = wtAll (xs.take n) + wtAll (xs.drop n) := by rw [← wtAll_app, List.take_append_drop]
theorem wtAll_len : ∀ xs : List PyData, 2 * xs.length ≤ wtAll xs
  | [] => by simp [wtAll]
  | x :: xs => by have := wtAll_len xs; simp only [wtAll, List.length_cons]; omega
theorem depthAll_le {k : Nat} : ∀ {xs : List PyData}, PyData.depthAll xs ≤ k ↔ ∀ x ∈ xs, x.depth ≤ k
  | [] => by simp [PyData.depthAll]
  | x :: xs => by
    have := depthAll_le (k := k) (xs := xs)
    simp only [PyData.depthAll, List.mem_cons, forall_eq_or_imp, ← this]
    omega
structure Fit (M k W : Nat) (d : PyData) : Prop where
  ok : fit M d
  dp : d.depth ≤ k
  wt : wt d ≤ W
theorem Fit.mono {M M' k k' W W' : Nat} {d : PyData} (h : Fit M k W d) (h1 : M ≤ M') (h2 : k ≤ k') (h3 : W ≤ W') : Fit M' k' W' d := ⟨fit_mono h1 h.ok, Nat.le_trans h.dp h2, Nat.le_trans h.wt h3⟩
theorem Fit.at {M k W : Nat} {ds : List PyData} {d : PyData} (h : Fit M k W (.tuple ds)) (hm : d ∈ ds) : Fit M (k - 1) W d ∧ d.depth + 1 ≤ (PyData.tuple ds).depth ∧ 1 ≤ k := by
  have h1 : fitAll M ds := by have := h.ok; simpa only [fit] using this
  have h2 := h.dp
  simp only [PyData.depth] at h2
  have h3 : ∀ x ∈ ds, x.depth ≤ PyData.depthAll ds := depthAll_le.mp (Nat.le_refl _)
  have h4 := h3 d hm
  refine ⟨⟨fitAll_iff.mp h1 d hm, by omega, ?_⟩, by simp only [PyData.depth]; omega, by omega⟩
  obtain ⟨a, b, rfl⟩ := List.append_of_mem hm
  have h5 := h.wt
  simp only [Pv.wt, wtAll_app, wtAll] at h5
  omega
/-- a tuple made of parts -/
theorem Fit.tup {M k W : Nat} {ds : List PyData} (h1 : ∀ d ∈ ds, fit M d ∧ d.depth + 1 ≤ k) (h0 : 1 ≤ k) (h2 : wtAll ds + 3 ≤ W) : Fit M k W (.tuple ds) := by
  refine ⟨by simp only [fit]; exact fitAll_iff.mpr fun d hd => (h1 d hd).1, ?_, by simpa only [Pv.wt] using h2⟩
  simp only [PyData.depth]
  have : PyData.depthAll ds ≤ k - 1 := depthAll_le.mpr fun d hd => by have := (h1 d hd).2; omega
  omega
theorem Fit.lst {M k W : Nat} {ds : List PyData} (h1 : ∀ d ∈ ds, fit M d ∧ d.depth + 1 ≤ k) (h0 : 1 ≤ k) (h2 : wtAll ds + 3 ≤ W) : Fit M k W (.list ds) := by
  refine ⟨by simp only [fit]; exact fitAll_iff.mpr fun d hd => (h1 d hd).1, ?_, by simpa only [Pv.wt] using h2⟩
  simp only [PyData.depth]
  have : PyData.depthAll ds ≤ k - 1 := depthAll_le.mpr fun d hd => by have := (h1 d hd).2; omega
  omega
theorem Fit.parts {M k W : Nat} {ds : List PyData} (h : Fit M k W (.tuple ds)) : (∀ d ∈ ds, fit M d ∧ d.depth + 1 ≤ k) ∧ 1 ≤ k ∧ wtAll ds + 3 ≤ W := by
  have h0 : 1 ≤ k := by have := h.dp; simp only [PyData.depth] at this; omega
  refine ⟨fun d hd => ⟨(h.at hd).1.ok, ?_⟩, h0, by have := h.wt; simpa only [Pv.wt] using this⟩
  have := (h.at hd).1.dp
  omega
theorem Fit.int {M k W : Nat} {i : Int} (h : i.natAbs ≤ M) (hW : 40 ≤ W) : Fit M k W (.int i) := ⟨by simpa only [fit] using h, by simp [PyData.depth], by simpa only [Pv.wt] using hW⟩
/-- what is shown together -/
theorem fit_pair {M : Nat} (hM : M < 10 ^ 35) {k W : Nat} {a b : PyData} (ha : Fit M k W a) (hb : Fit M k W b) (hk : k ≤ 50) (hW : W ≤ 1000000) :
    (PyData.list [a, b]).showable = true ∧ (PyData.list [a, b]).depth ≤ 60 ∧ (PyData.list [a, b]).shown.length ≤ sizeLine := by
  have h : Fit M (k + 1) (2 * W + 10) (.list [a, b]) := by
    refine Fit.lst ?_ (by omega) ?_
    · intro d hd
      rcases List.mem_cons.mp hd with rfl | hd
      · exact ⟨ha.ok, by have := ha.dp; omega⟩
      · rcases List.mem_cons.mp hd with rfl | hd
        · exact ⟨hb.ok, by have := hb.dp; omega⟩
        · cases hd
    · have h1 := ha.wt
      have h2 := hb.wt
      simp only [wtAll]; omega
  obtain ⟨s1, s2⟩ := fit_ok hM h.ok
  refine ⟨s1, Nat.le_trans h.dp (by omega), Nat.le_trans s2 (Nat.le_trans h.wt ?_)⟩
  rw [sizeLine_eq]; omega
/-! the data of instances and assignments -/
theorem fit_dI {M : Nat} {ns : List Int} (h : ∀ i ∈ ns, i.natAbs ≤ M) : Fit M 1 (ns.length * 42 + 3) (dI ns) := by
  have hw : wtAll (ns.map PyData.int) = ns.length * 42 := by
    clear h
    induction ns with
    | nil => rfl
    | cons a ns ih => simp only [List.map_cons, wtAll, wt, ih, List.length_cons]; omega
  refine Fit.tup ?_ (by decide) (by rw [hw]; exact Nat.le_refl _)
  intro d hd
  obtain ⟨i, hi, rfl⟩ := List.mem_map.mp hd
  exact ⟨by simpa only [fit] using h i hi, by simp [PyData.depth]⟩
theorem wtAll_le {W : Nat} : ∀ {ds : List PyData}, (∀ d ∈ ds, wt d ≤ W) → wtAll ds ≤ ds.length * (W + 2)
  | [], _ => by simp [wtAll]
  | d :: ds, h => by
    have h1 := h d (by simp)
    have h2 := wtAll_le (W := W) (ds := ds) (fun x hx => h x (by simp [hx]))
    simp only [wtAll, List.length_cons, Nat.succ_mul]; omega
theorem fit_dAsg {M : Nat} {rows : List (List Int)} (h : ∀ row ∈ rows, row.length ≤ 10 ∧ ∀ i ∈ row, i.natAbs ≤ M) (hr : rows.length ≤ 20) : Fit M 2 10000 (dAsg rows) := by
  unfold dAsg
  refine Fit.tup ?_ (by decide) ?_
  · intro d hd
    obtain ⟨row, hrow, rfl⟩ := List.mem_map.mp hd
    have := fit_dI (M := M) (h row hrow).2
    exact ⟨this.ok, by have := this.dp; omega⟩
  · have := wtAll_le (W := 430) (ds := rows.map dI) (by
      intro d hd
      obtain ⟨row, hrow, rfl⟩ := List.mem_map.mp hd
      have := (fit_dI (M := M) (h row hrow).2).wt
      have := (h row hrow).1
      omega)
    rw [List.length_map] at this
    omega
theorem fit_dInst {M : Nat} {cs : List Int} {gs : List Gp} (hc : cs.length ≤ 10 ∧ ∀ i ∈ cs, i.natAbs ≤ M) (hg : gs.length ≤ 20) (h : ∀ g ∈ gs, g.1.length ≤ 10 ∧ (∀ i ∈ g.1, i.natAbs ≤ M) ∧ g.2.natAbs ≤ M) : Fit M 5 20000 (dInst cs gs) := by
  have f1 := fit_dI hc.2
  have f2 : ∀ g ∈ gs, Fit M 2 600 (dGrp g) := by
    intro g hgm
    have f3 := fit_dI (M := M) (h g hgm).2.1
    have hl := (h g hgm).1
    unfold dGrp
    refine Fit.tup ?_ (by decide) ?_
    · intro d hd
      rcases List.mem_cons.mp hd with rfl | hd
      · exact ⟨f3.ok, by have := f3.dp; omega⟩
      · rcases List.mem_cons.mp hd with rfl | hd
        · exact ⟨by simpa only [fit] using (h g hgm).2.2, by simp [PyData.depth]⟩
        · cases hd
    · have := f3.wt
      simp only [wtAll, Pv.wt]; omega
  have f4 : Fit M 3 13000 (.tuple (gs.map dGrp)) := by
    refine Fit.tup ?_ (by decide) ?_
    · intro d hd
      obtain ⟨g, hgm, rfl⟩ := List.mem_map.mp hd
      exact ⟨(f2 g hgm).ok, by have := (f2 g hgm).dp; omega⟩
    · have := wtAll_le (W := 600) (ds := gs.map dGrp) (by
        intro d hd
        obtain ⟨g, hgm, rfl⟩ := List.mem_map.mp hd
        exact (f2 g hgm).wt)
      rw [List.length_map] at this
      omega
  unfold dInst
  refine Fit.tup ?_ (by decide) ?_
  · intro d hd
    rcases List.mem_cons.mp hd with rfl | hd
    · exact ⟨f1.ok, by have := f1.dp; omega⟩
    · rcases List.mem_cons.mp hd with rfl | hd
      · exact ⟨f4.ok, by have := f4.dp; omega⟩
      · cases hd
  · have h1 := f1.wt
    have h2 := f4.wt
    have := hc.1
    simp only [wtAll]; omega
end Pv

namespace Pv
open PySem PySem.Spec PyProof.Rows L2

theorem cutFrom (xs : List V) (n : Nat) : cutV xs (some (n : Int)) none = xs.drop n := by
  unfold cutV
  rw [HT.sIx_nat, HT.sIx_none]
  by_cases h : n ≤ xs.length
  · rw [Nat.min_eq_left h, List.take_of_length_le (by rw [List.length_drop]; exact Nat.le_refl _)]
  · rw [Nat.min_eq_right (by omega), List.drop_eq_nil_of_le (Nat.le_refl _), List.drop_eq_nil_of_le (by omega)]; simp
theorem slAny {K : PySem.W.Frag} {H : Hp} {a : Addr} {xs : List V} {lo hi : Option Int} (hP : SqT K H a xs) {Q : VK} (h : ∀ (H' : Hp) (b : Addr), Same H H' → SqT K H' b (cutV xs lo hi) → Q (.ref b) H') : rSlA K (.ref a) lo hi H Q := by
  refine ⟨a, _, rfl, hP, fun hw => ?_, fun _ p np => ?_⟩
  · refine h H a (Same.refl _) ?_
    have e : cutV xs lo hi = xs := by
      unfold cutV
      rw [hw.1, hw.2, List.drop_zero, Nat.sub_zero, List.take_length]
    rw [e]; exact hP
  · exact h _ p (sameNew np) (SqT.of upd_same)
mutual
def wx : PyData → Nat
  | .none => 4
  | .bool _ => 5
  | .int i => if i.natAbs < 100 then 3 else 40
  | .str x => (reprText x).length
  | .list xs => wxA xs + 3
  | .tuple xs => wxA xs + 3
  | .dict _ => 40
def wxA : List PyData → Nat
  | [] => 0
  | x :: xs => wx x + 2 + wxA xs
end
theorem int_small {i : Int} (h : i.natAbs < 100) : (PyData.int i).shown.length ≤ 3 := by
  have e := int_text_length_le10 (k := 2) (by decide) (show i.natAbs < 10 ^ 2 by omega)
  show (Str.ofString (toString i)).length ≤ 3
  rw [PySem.ofString_length]
  omega
mutual
theorem shown_wx {M : Nat} (hM : M < 10 ^ 35) : ∀ {d : PyData}, fit M d → d.shown.length ≤ wx d
  | .none, _ => by simp only [PyData.shown, wx]; decide
  | .bool b, _ => by cases b <;> (simp only [PyData.shown, wx]; decide)
  | .int i, h => by
    by_cases hs : i.natAbs < 100
    · simp only [wx]
      rw [if_pos hs]
      exact int_small hs
    · have := (int_text (i := i) (M := M) (by simpa only [fit] using h) hM).2
      simp only [wx]
      rw [if_neg hs]
      exact this
  | .str x, h => by simp only [PyData.shown, wx]; exact Nat.le_refl _
  | .list xs, h => by
    have h2 := shownA_wx hM (xs := xs) (by simpa only [fit] using h)
    simp only [PyData.shown, wx]
    have e := listText_len_le (PyData.shownAll xs)
    omega
  | .tuple xs, h => by
    have h2 := shownA_wx hM (xs := xs) (by simpa only [fit] using h)
    simp only [PyData.shown, wx]
    have e := tupleText_len_le (PyData.shownAll xs)
    omega
  | .dict kvs, h => by simp only [fit] at h; simp only [wx]; exact h.1
theorem shownA_wx {M : Nat} (hM : M < 10 ^ 35) : ∀ {xs : List PyData}, fitAll M xs → ((PyData.shownAll xs).map (·.length)).sum + 2 * (PyData.shownAll xs).length ≤ wxA xs
  | [], _ => by simp [PyData.shownAll, wxA]
  | x :: xs, h => by
    have h' : fit M x ∧ fitAll M xs := by simpa only [fitAll] using h
    have a2 := shown_wx hM h'.1
    have b2 := shownA_wx hM h'.2
    simp only [PyData.shownAll, List.map_cons, List.sum_cons, List.length_cons, wxA]
    omega
end
theorem wxA_app : ∀ (xs ys : List PyData), wxA (xs ++ ys) = wxA xs + wxA ys
  | [], ys => by simp [wxA]
  | x :: xs, ys => by simp only [List.cons_append, wxA, wxA_app xs ys]; omega
theorem wxA_rev : ∀ xs : List PyData, wxA xs.reverse = wxA xs
  | [] => rfl
  | x :: xs => by rw [List.reverse_cons, wxA_app, wxA_rev xs]; simp only [wxA]; omega
theorem wxA_split (xs : List PyData) (n : Nat) : wxA xs = wxA (xs.take n) + wxA (xs.drop n) := by rw [← wxA_app, List.take_append_drop]
theorem wxA_len : ∀ xs : List PyData, 2 * xs.length ≤ wxA xs
  | [] => by simp [wxA]
  | x :: xs => by have := wxA_len xs; simp only [wxA, List.length_cons]; omega
theorem wxA_at {ds : List PyData} {i : Nat} {d : PyData} (h : ds[i]? = some d) : wxA ds = wxA (ds.take i) + (wx d + 2) + wxA (ds.drop (i + 1)) := by
  have e : ds.take (i + 1) = ds.take i ++ [d] := take_snoc h
  have := wxA_split ds (i + 1)
  rw [e, wxA_app] at this
  simp only [wxA] at this
  omega
structure Fx (M k W : Nat) (d : PyData) : Prop where
  ok : fit M d
  dp : d.depth ≤ k
  wx : wx d ≤ W
theorem Fx.mono {M M' k k' W W' : Nat} {d : PyData} (h : Fx M k W d) (h1 : M ≤ M') (h2 : k ≤ k') (h3 : W ≤ W') : Fx M' k' W' d := ⟨fit_mono h1 h.ok, Nat.le_trans h.dp h2, Nat.le_trans h.wx h3⟩
theorem Fx.tup {M k W : Nat} {ds : List PyData} (h1 : ∀ d ∈ ds, fit M d ∧ d.depth + 1 ≤ k) (h0 : 1 ≤ k) (h2 : wxA ds + 3 ≤ W) : Fx M k W (.tuple ds) := by
  refine ⟨by simp only [fit]; exact fitAll_iff.mpr fun d hd => (h1 d hd).1, ?_, by simpa only [Pv.wx] using h2⟩
  simp only [PyData.depth]
  have : PyData.depthAll ds ≤ k - 1 := depthAll_le.mpr fun d hd => by have := (h1 d hd).2; omega
  omega
theorem Fx.lst {M k W : Nat} {ds : List PyData} (h1 : ∀ d ∈ ds, fit M d ∧ d.depth + 1 ≤ k) (h0 : 1 ≤ k) (h2 : wxA ds + 3 ≤ W) : Fx M k W (.list ds) := by
  refine ⟨by simp only [fit]; exact fitAll_iff.mpr fun d hd => (h1 d hd).1, ?_, by simpa only [Pv.wx] using h2⟩
  simp only [PyData.depth]
  have : PyData.depthAll ds ≤ k - 1 := depthAll_le.mpr fun d hd => by have := (h1 d hd).2; omega
  omega
theorem Fx.parts {M k W : Nat} {ds : List PyData} (h : Fx M k W (.tuple ds)) : (∀ d ∈ ds, fit M d ∧ d.depth + 1 ≤ k ∧ d.depth + 1 ≤ (PyData.tuple ds).depth) ∧ 1 ≤ k ∧ wxA ds + 3 ≤ W := by
  have h0 : 1 ≤ k := by have := h.dp; simp only [PyData.depth] at this; omega
  have h1 : fitAll M ds := by have := h.ok; simpa only [fit] using this
  have h2 := h.dp
  simp only [PyData.depth] at h2
  have h3 : ∀ x ∈ ds, x.depth ≤ PyData.depthAll ds := depthAll_le.mp (Nat.le_refl _)
  refine ⟨fun d hd => ⟨fitAll_iff.mp h1 d hd, by have := h3 d hd; omega, by have := h3 d hd; simp only [PyData.depth]; omega⟩, h0, by have := h.wx; simpa only [Pv.wx] using this⟩
theorem Fx.int {M k W : Nat} {i : Int} (h : i.natAbs ≤ M) (hW : 40 ≤ W) : Fx M k W (.int i) := ⟨by simpa only [fit] using h, by simp [PyData.depth], by simp only [Pv.wx]; split <;> omega⟩
theorem Fx.bl {M k W : Nat} {b : Bool} (hW : 5 ≤ W) : Fx M k W (.bool b) := ⟨by simp [fit], by simp [PyData.depth], by simp only [Pv.wx]; omega⟩
theorem str_signs (s : String) : ∀ c ∈ (Str.ofString s).cps.toList, c < 16 ^ 8 := by
  intro c hc
  rw [signs_ofString] at hc
  have : ∃ ch : Char, c = ch.toNat := by
    obtain ⟨ch, _, e⟩ := List.mem_map.mp hc
    exact ⟨ch, e.symm⟩
  obtain ⟨ch, rfl⟩ := this
  have h : ch.toNat < 1114112 := by
    rcases ch.valid with h | h
    · have h : ch.toNat < 55296 := h
      omega
    · have h : ch.toNat < 1114112 := h.2
      exact h
  omega
theorem fx_text {M k W : Nat} {i : Int} (h : i.natAbs < 10 ^ 30) (hW : 330 ≤ W) : Fx M k W (.str (Str.ofString (toString i))) := by
  have e := int_text_length_le10 (k := 30) (by decide) h
  have e2 := StrLaws.reprText_len (Str.ofString (toString i)) (str_signs _)
  rw [PySem.ofString_length] at e2
  exact ⟨by simp only [fit]; omega, by simp [PyData.depth], by simp only [Pv.wx]; omega⟩
theorem fx_sub {M k W W' : Nat} {ds es : List PyData} (h : Fx M k W (.tuple ds)) (hs : ∀ e ∈ es, e ∈ ds) (hw : wxA es + 3 ≤ W') : Fx (M + 1) (k + 2) W' (.tuple es) := by
  obtain ⟨h1, h2, _⟩ := h.parts
  exact Fx.tup (fun e he => ⟨fit_mono (by omega) (h1 e (hs e he)).1, by have := (h1 e (hs e he)).2.1; omega⟩) (by omega) hw
theorem fx_subL {M k W W' : Nat} {ds es : List PyData} (h : Fx M k W (.tuple ds)) (hs : ∀ e ∈ es, e ∈ ds) (hw : wxA es + 3 ≤ W') : Fx (M + 1) (k + 2) W' (.list es) := by
  obtain ⟨h1, h2, _⟩ := h.parts
  exact Fx.lst (fun e he => ⟨fit_mono (by omega) (h1 e (hs e he)).1, by have := (h1 e (hs e he)).2.1; omega⟩) (by omega) hw
def odds : List PyData := [.none, .bool true, .bool false, .int 0, .int 1, .int 2, .int 3, .int (-1), .int ((10 : Int) ^ (29 : Int).toNat), .str "", .str "0", .tuple [], .tuple [.int 0], .list [], .list [.int 0], .dict [], .tuple [.tuple []], .tuple [.bool true], .int ((10 : Int) ^ (12 : Int).toNat)]
mutual
theorem fitBok {M : Nat} : ∀ {d : PyData}, fitB M 400 d = true → fit M d
  | .none, _ => by simp [fit]
  | .bool _, _ => by simp [fit]
  | .int i, h => by simp only [fitB, decide_eq_true_eq] at h; simpa only [fit] using h
  | .str x, h => by simp only [fitB, decide_eq_true_eq] at h; simpa only [fit] using h
  | .list xs, h => by simp only [fitB] at h; simp only [fit]; exact fitAllBok h
  | .tuple xs, h => by simp only [fitB] at h; simp only [fit]; exact fitAllBok h
  | .dict kvs, h => by simp only [fitB, Bool.and_eq_true, decide_eq_true_eq] at h; simp only [fit]; exact h
theorem fitAllBok {M : Nat} : ∀ {xs : List PyData}, fitAllB M 400 xs = true → fitAll M xs
  | [], _ => by simp [fitAll]
  | x :: xs, h => by simp only [fitAllB, Bool.and_eq_true] at h; simp only [fitAll]; exact ⟨fitBok h.1, fitAllBok h.2⟩
end
theorem odds_all : odds.all (fun d => fitB (10 ^ 29) 400 d && decide (d.depth ≤ 2) && decide (wx d ≤ 60)) = true := by decide +kernel
theorem odd_fx {d : PyData} (h : d ∈ odds) : Fx (10 ^ 29) 2 60 d := by
  have := List.all_eq_true.mp odds_all d h
  simp only [Bool.and_eq_true, decide_eq_true_eq] at this
  exact ⟨fitBok this.1.1, this.1.2, this.2⟩
theorem seq_with2 {t u : TS} {D : Ends} {σ : L2.St} {H : Hp} (Pre : L2.St → Hp → Prop) (rest : ∀ σ1 H1, Pre σ1 H1 → u D σ1 H1) (main : (∀ σ1 H1, Pre σ1 H1 → u D σ1 H1) → tSeq t u D σ H) : tSeq t u D σ H := main rest
end Pv

namespace Pv
open PySem PySem.Spec PyProof.Rows L2
/-! values as Dq shows them, with any set of lists kept out -/
mutual
inductive Dz (K : PySem.W.Frag) (E : Addr → Prop) (H : Hp) : V → PyData → Prop
  | non : Dz K E H .non .none
  | bl (b : Bool) : Dz K E H (.bl b) (.bool b)
  | int (i : Int) : Dz K E H (.int i) (.int i)
  | str (x : Str) : Dz K E H (.str x) (.str x)
  | lst {a : Addr} {xs : List V} {ds : List PyData} : H a = some (.lst xs) → ¬ E a → a ≠ sysModules → DzAll K E H xs ds → Dz K E H (.ref a) (.list ds)
  | tup {a : Addr} {xs : List V} {ds : List PyData} : SqT K H a xs → DzAll K E H xs ds → Dz K E H (.ref a) (.tuple ds)
  | dct {a : Addr} {kvs : List (Key × Int)} : H a = some (.dK (kvs.map fun p => (p.1, V.int p.2))) → Dz K E H (.ref a) (.dict (kvs.map fun p => (kD p.1, .int p.2)))
inductive DzAll (K : PySem.W.Frag) (E : Addr → Prop) (H : Hp) : List V → List PyData → Prop
  | nil : DzAll K E H [] []
  | cons {v : V} {vs : List V} {d : PyData} {ds : List PyData} : Dz K E H v d → DzAll K E H vs ds → DzAll K E H (v :: vs) (d :: ds)
end
structure LastE (E : Addr → Prop) (H H' : Hp) : Prop where
  tk : TupK H H'
  ls : ∀ a xs, H a = some (.lst xs) → ¬ E a → H' a = some (.lst xs)
  dk : ∀ a kvs, H a = some (.dK kvs) → H' a = some (.dK kvs)
section
variable {K : PySem.W.Frag} {E : Addr → Prop} {H H' H2 : Hp} {st r c p F : Addr} {o : HO}
theorem LastE.of (s : Same H H') : LastE E H H' := ⟨.of s, fun a xs e _ => s _ _ e, fun a kvs e => s _ _ e⟩
theorem LastE.ext {t : Nat} (hs : E st) (hr : E r) (d : DS H st c r t) (x : Ext st r H H') : LastE E H H' := by
  have l := Lasts.ext d x
  exact ⟨l.tk, fun a xs e n => l.ls a xs e (fun z => n (z ▸ hs)) (fun z => n (z ▸ hr)), l.dk⟩
theorem LastE.trans (a : LastE E H H') (b : LastE E H' H2) : LastE E H H2 := ⟨a.tk.trans b.tk, fun x xs e n => b.ls _ _ (a.ls _ _ e n) n, fun x kvs e => b.dk _ _ (a.dk _ _ e)⟩
mutual
theorem Dz.lasts (l : LastE E H H') : ∀ {d : PyData} {v : V}, Dz K E H v d → Dz K E H' v d
  | .none, _, h => by cases h; exact .non
  | .bool _, _, h => by cases h; exact .bl _
  | .int _, _, h => by cases h; exact .int _
  | .str _, _, h => by cases h; exact .str _
  | .list _, _, h => by
    cases h with
    | lst e n1 n3 hd => exact .lst (l.ls _ _ e n1) n1 n3 (DzAll.lasts l hd)
  | .tuple _, _, h => by
    cases h with
    | tup e hd => exact .tup (l.tk.sq e) (DzAll.lasts l hd)
  | .dict _, _, h => by
    cases h with
    | dct e => exact .dct (l.dk _ _ e)
theorem DzAll.lasts (l : LastE E H H') : ∀ {ds : List PyData} {vs : List V}, DzAll K E H vs ds → DzAll K E H' vs ds
  | [], _, h => by cases h; exact .nil
  | _ :: _, _, h => by
    cases h with
    | cons h1 h2 => exact .cons (Dz.lasts l h1) (DzAll.lasts l h2)
end
mutual
theorem Dz.dq (hs : E st) (hr : E r) : ∀ {d : PyData} {v : V}, Dz K E H v d → Dq K st r H v d
  | .none, _, h => by cases h; exact .non
  | .bool _, _, h => by cases h; exact .bl _
  | .int _, _, h => by cases h; exact .int _
  | .str _, _, h => by cases h; exact .str _
  | .list _, _, h => by
    cases h with
    | lst e n1 n3 hd => exact .lst e (fun z => n1 (z ▸ hs)) (fun z => n1 (z ▸ hr)) n3 (DzAll.dq hs hr hd)
  | .tuple _, _, h => by
    cases h with
    | tup e hd => exact .tup e (DzAll.dq hs hr hd)
  | .dict _, _, h => by
    cases h with
    | dct e => exact .dct e
theorem DzAll.dq (hs : E st) (hr : E r) : ∀ {ds : List PyData} {vs : List V}, DzAll K E H vs ds → DqAll K st r H vs ds
  | [], _, h => by cases h; exact .nil
  | _ :: _, _, h => by
    cases h with
    | cons h1 h2 => exact .cons (Dz.dq hs hr h1) (DzAll.dq hs hr h2)
end
mutual
theorem Dz.of_dp : ∀ {d : PyData} {v : V}, tupOnly d = true → Dp K H v d → Dz K E H v d
  | .none, _, _, h => by cases h; exact .non
  | .bool _, _, _, h => by cases h; exact .bl _
  | .int _, _, _, h => by cases h; exact .int _
  | .str _, _, _, h => by cases h; exact .str _
  | .list _, _, t, _ => by simp [tupOnly] at t
  | .tuple _, _, t, h => by
    cases h with
    | tup e hd => exact .tup e (DzAll.of_dp (by simpa [tupOnly] using t) hd)
  | .dict _, _, t, _ => by simp [tupOnly] at t
theorem DzAll.of_dp : ∀ {ds : List PyData} {vs : List V}, tupOnlyAll ds = true → DpAll K H vs ds → DzAll K E H vs ds
  | [], _, _, h => by cases h; exact .nil
  | d :: ds, _, t, h => by
    have t' : tupOnly d = true ∧ tupOnlyAll ds = true := by simpa [tupOnlyAll] using t
    cases h with
    | cons h1 h2 => exact .cons (Dz.of_dp t'.1 h1) (DzAll.of_dp t'.2 h2)
end
theorem DzAll.len : ∀ {vs : List V} {ds : List PyData}, DzAll K E H vs ds → vs.length = ds.length
  | _, _, .nil => rfl
  | _, _, .cons _ t => by simp [DzAll.len t]
theorem DzAll.at : ∀ {vs : List V} {ds : List PyData} {i : Nat} {v : V}, DzAll K E H vs ds → vs[i]? = some v → ∃ d, ds[i]? = some d ∧ Dz K E H v d
  | _, _, _, _, .nil, e => by simp at e
  | _, _, 0, _, .cons h _, e => by simp at e; subst e; exact ⟨_, rfl, h⟩
  | _, _, i + 1, v, .cons _ t, e => by
    obtain ⟨d, h1, h2⟩ := DzAll.at (i := i) t (by simpa using e)
    exact ⟨d, by simpa using h1, h2⟩
theorem DzAll.app : ∀ {vs ws : List V} {ds es : List PyData}, DzAll K E H vs ds → DzAll K E H ws es → DzAll K E H (vs ++ ws) (ds ++ es)
  | _, _, _, _, .nil, h => h
  | _, _, _, _, .cons h t, h' => .cons h (DzAll.app t h')
theorem DzAll.snoc {vs : List V} {ds : List PyData} {v : V} {d : PyData} (h : DzAll K E H vs ds) (h' : Dz K E H v d) : DzAll K E H (vs ++ [v]) (ds ++ [d]) := h.app (.cons h' .nil)
theorem DzAll.rev : ∀ {vs : List V} {ds : List PyData}, DzAll K E H vs ds → DzAll K E H vs.reverse ds.reverse
  | _, _, .nil => .nil
  | _, _, .cons h t => by rw [List.reverse_cons, List.reverse_cons]; exact (DzAll.rev t).snoc h
theorem DzAll.take : ∀ {vs : List V} {ds : List PyData} (n : Nat), DzAll K E H vs ds → DzAll K E H (vs.take n) (ds.take n)
  | _, _, 0, _ => .nil
  | _, _, _ + 1, .nil => .nil
  | _, _, n + 1, .cons h t => .cons h (DzAll.take n t)
theorem DzAll.drop : ∀ {vs : List V} {ds : List PyData} (n : Nat), DzAll K E H vs ds → DzAll K E H (vs.drop n) (ds.drop n)
  | _, _, 0, h => h
  | _, _, _ + 1, .nil => .nil
  | _, _, n + 1, .cons _ t => DzAll.drop n t
theorem dz_sq {v : V} {ds : List PyData} (h : Dz K E H v (.tuple ds)) : ∃ (a : Addr) (xs : List V), v = .ref a ∧ SqT K H a xs ∧ DzAll K E H xs ds := by
  cases h with
  | tup h1 h2 => exact ⟨_, _, rfl, h1, h2⟩
end
/-! written values -/
def tLitZ (K : PySem.W.Frag) (d : PyData) : TE := fun _ H Q => ∃ E : Addr → Prop, (∀ a, E a → H a ≠ none) ∧ ∀ H' v, Same H H' → Dz K E H' v d → Q v H'
def tLitsZ (K : PySem.W.Frag) (ds : List PyData) : TA := fun _ H Q => ∃ E : Addr → Prop, (∀ a, E a → H a ≠ none) ∧ ∀ H' vs, Same H H' → DzAll K E H' vs ds → Q vs H'
theorem occE {E : Addr → Prop} {H H' : Hp} (h : ∀ a, E a → H a ≠ none) (s : Same H H') : ∀ a, E a → H' a ≠ none := fun a ha => by
  cases e : H a with
  | none => exact absurd e (h a ha)
  | some o => rw [s _ _ e]; simp
theorem occE_ne {E : Addr → Prop} {H : Hp} {p : Addr} (h : ∀ a, E a → H a ≠ none) (np : H p = none) : ¬ E p := fun z => h p z np
section
variable {X : Cx} {e : Expr} {es : List Expr} {pos p1 p2 : Pos} {d : PyData} {ds : List PyData}
theorem litz_c {v : V} (h : PE X e (tC v)) (hd : ∀ E H, Dz X.K E H v d) : PE X e (tLitZ X.K d) := pe_mono h fun σ H Q ⟨E, _, q⟩ => q H v (Same.refl H) (hd E H)
theorem litz_int {n : Int} (h : PE X e (tC (.int n))) : PE X e (tLitZ X.K (.int n)) := litz_c h fun _ _ => .int n
theorem litz_bl {b : Bool} (h : PE X e (tC (.bl b))) : PE X e (tLitZ X.K (.bool b)) := litz_c h fun _ _ => .bl b
theorem litz_str {x : Str} (h : PE X e (tC (.str x))) : PE X e (tLitZ X.K (.str x)) := litz_c h fun _ _ => .str x
theorem litz_non (h : PE X e (tC .non)) : PE X e (tLitZ X.K .none) := litz_c h fun _ _ => .non
theorem litz_neg {n : Int} (h : PE X e (tUn (rU fun i => .int (-i)) (tC (.int n)))) : PE X e (tLitZ X.K (.int (-n))) := pe_mono h fun σ H Q ⟨E, _, q⟩ => ⟨n, rfl, q H _ (Same.refl H) (.int _)⟩
theorem litz_pow {a b : Int} (h : PE X e (tOp (rI CPow fun i j => .int (i ^ j.toNat)) (tC (.int a)) (tC (.int b)))) (hc : CPow a b) : PE X e (tLitZ X.K (.int (a ^ b.toNat))) :=
  pe_mono h fun σ H Q ⟨E, _, q⟩ => ⟨a, b, rfl, rfl, hc, q H _ (Same.refl H) (.int _)⟩
theorem litsz_nil : PA X [] (tLitsZ X.K []) := pa_mono pa_nil fun σ H Q ⟨E, _, q⟩ => q H [] (Same.refl H) .nil
theorem litsz_cons (h : PE X e (tLitZ X.K d)) (hs : PA X es (tLitsZ X.K ds)) (hq : starEach (e :: es) X.env = (false, eval e X.env) :: starEach es X.env := by rfl) : PA X (e :: es) (tLitsZ X.K (d :: ds)) :=
  pa_mono (pa_cons h hs hq) fun σ H Q ⟨E, oc, q⟩ => ⟨E, oc, fun H1 v s1 d1 => ⟨E, occE oc s1, fun H2 vs s2 d2 => q H2 _ (s1.trans s2) (.cons (d1.lasts (.of s2)) d2)⟩⟩
theorem litz_tup {k : Nat} (h : PA X es (tLitsZ X.K ds)) (hl : ds.length ≤ 1000000) : PE X (.Tuple es k pos) (tLitZ X.K (.tuple ds)) :=
  pe_mono (pe_tup h) fun σ H Q ⟨E, oc, q⟩ => ⟨E, oc, fun H1 vs s1 d1 => ⟨by rw [DzAll.len d1]; exact small6 hl, fun p np => q _ _ (s1.trans (sameNew np)) (.tup (SqT.of upd_same) (d1.lasts (.of (sameNew np))))⟩⟩
theorem litz_lst (h : PA X es (tLitsZ X.K ds)) (hl : ds.length ≤ 1000000) : PE X (.List es pos) (tLitZ X.K (.list ds)) :=
  pe_mono (pe_lstS h) fun σ H Q ⟨E, oc, q⟩ => ⟨E, oc, fun H1 vs s1 d1 => ⟨by rw [DzAll.len d1]; exact small6 hl, fun p np ns => q _ _ (s1.trans (sameNew np)) (.lst upd_same (occE_ne (occE oc s1) np) ns (d1.lasts (.of (sameNew np))))⟩⟩
theorem litz_dict : PE X (.Dict [] [] pos) (tLitZ X.K (.dict [])) :=
  pe_mono pe_dnewK fun σ H Q ⟨E, oc, q⟩ => fun p np => q _ _ (sameNew np) (.dct (kvs := []) upd_same)
end
end Pv

namespace Pv
open PySem PySem.Spec PyProof.Rows L2
abbrev sOd : Stmt := topS 42
theorem scOd : FnScope ["_law_stream_here", "_law_items"] ["_law_stream_here"] (defScope sOd) := ⟨rfl, rfl, rfl, by decide +kernel, rfl, by decide +kernel, by decide +kernel⟩
abbrev sBe : Stmt := topS 43
theorem scBe : FnScope ["_law_stream_here", "_law_value", "_law_place", "_law_some"] ["_law_stream_here", "_law_value"] (defScope sBe) := ⟨rfl, rfl, rfl, by decide +kernel, rfl, by decide +kernel, by decide +kernel⟩
section
variable {P : Program} {w : World} {K : PySem.W.Frag} {mg : Str → Option Value} {base : Heap}
theorem dsOcc {H : Hp} {st c r : Addr} {t : Nat} (Dx : DS H st c r t) : H st ≠ none ∧ H r ≠ none := by
  obtain ⟨cells, rests, hc', hr', _⟩ := Dx.ex
  exact ⟨by rw [Dx.hs]; simp, by rw [hr']; simp⟩
theorem occX {E : Addr → Prop} {st r : Addr} {H H' : Hp} (oc : ∀ a, E a → H a ≠ none) (h : H' st ≠ none ∧ H' r ≠ none) (x : Ext st r H H') : ∀ a, E a → H' a ≠ none := fun a ha => by
  by_cases h1 : a = st
  · rw [h1]; exact h.1
  by_cases h2 : a = r
  · rw [h2]; exact h.2
  cases e : H a with
  | none => exact absurd e (oc a ha)
  | some o => rw [x _ _ e h1 h2]; simp
def spOd (K : PySem.W.Frag) : Sp := fun vs H Q _ => ∃ (st c r : Addr) (t : Nat) (E : Addr → Prop), vs = [.ref st] ∧ DS H st c r t ∧ t + 10 ≤ 1000000 ∧ E st ∧ E r ∧ (∀ a, E a → H a ≠ none) ∧ ∀ (H' : Hp) (v : V) (d : PyData), DS H' st c r (t + 1) → Ext st r H H' → Dz K E H' v d → Fx (10 ^ 29) 2 60 d → Q v H'
def spBe (K : PySem.W.Frag) : Nat → Sp
  | 0 => fun _ _ _ _ => False
  | n + 1 => fun vs H Q _ => ∃ (st c r : Addr) (t : Nat) (v : V) (d : PyData) (M k W : Nat) (E : Addr → Prop), vs = [.ref st, v] ∧ DS H st c r t ∧ t + 10 * (n + 1) ≤ 900000 ∧ Dz K E H v d ∧ Fx M k W d ∧ 10 ^ 29 ≤ M ∧ M ≤ 10 ^ 29 + 100 ∧ W ≤ 8000000 ∧ d.depth + 3 ≤ n ∧ E st ∧ E r ∧ (∀ a, E a → H a ≠ none) ∧
    ∀ (H' : Hp) (v' : V) (d' : PyData) (t' : Nat), DS H' st c r t' → t' ≤ t + 10 * (n + 1) → Ext st r H H' → Dz K E H' v' d' → Fx (M + 1) (k + 2) (2 * W + 330) d' → Q v' H'
theorem cut_part (xs : List V) (lo hi : Option Int) : ∃ m n, cutV xs lo hi = (xs.drop m).take n := ⟨_, _, rfl⟩
theorem part_mem {ds : List PyData} {m n : Nat} {d : PyData} (h : d ∈ (ds.drop m).take n) : d ∈ ds := List.mem_of_mem_drop (List.mem_of_mem_take h)
theorem wxA_part (ds : List PyData) (m n : Nat) : wxA ((ds.drop m).take n) ≤ wxA ds := by
  have h1 := wxA_split ds m
  have h2 := wxA_split (ds.drop m) n
  omega
theorem strN {M k W : Nat} {v : V} {d : PyData} {K : PySem.W.Frag} {st r : Addr} {H0 H : Hp} {Q : VK} (hd : Dq K st r H0 v d) (hi : isInt d = true) (hf : fit M d) (hM : M ≤ 10 ^ 29 + 100) (hW : 330 ≤ W) (q : ∀ x, Fx (M + 1) (k + 2) W (.str x) → Q (.str x) H) : rStrN [v] H Q := by
  cases d with
  | int i =>
    obtain rfl : v = .int i := by cases hd; rfl
    simp only [fit] at hf
    have h30 : i.natAbs < 10 ^ 30 := by omega
    refine ⟨_, rfl, .inl ⟨i, rfl, ?_, q _ (fx_text h30 hW)⟩⟩
    by_cases h0 : i.natAbs = 0
    · rw [h0]; decide
    · have := (Nat.log2_lt h0).mpr (Nat.lt_trans h30 (show (10 : Nat) ^ 30 < 2 ^ 100 by decide))
      omega
  | bool b =>
    obtain rfl : v = .bl b := by cases hd; rfl
    refine ⟨_, rfl, .inr ⟨b, rfl, q _ ?_⟩⟩
    cases b
    · exact ⟨by simp only [fit]; decide +kernel, by simp [PyData.depth], by simp only [Pv.wx]; exact Nat.le_trans (show _ ≤ 330 by decide +kernel) hW⟩
    · exact ⟨by simp only [fit]; decide +kernel, by simp [PyData.depth], by simp only [Pv.wx]; exact Nat.le_trans (show _ ≤ 330 by decide +kernel) hW⟩
  | _ => simp [isInt] at hi
theorem isN_of {v : V} {d : PyData} {K : PySem.W.Frag} {st r : Addr} {H0 : Hp} {M : Nat} (hd : Dq K st r H0 v d) (hi : isInt d = true) (hf : fit M d) (h1 : 1 ≤ M) : ∃ i : Int, IsN v i ∧ i.natAbs ≤ M := by
  cases d with
  | int i =>
    obtain rfl : v = .int i := by cases hd; rfl
    simp only [fit] at hf
    exact ⟨i, .inl rfl, hf⟩
  | bool b =>
    obtain rfl : v = .bl b := by cases hd; rfl
    refine ⟨nB b, .inr ⟨b, rfl, rfl⟩, ?_⟩
    cases b <;> simp [nB]; omega
  | _ => simp [isInt] at hi
set_option maxHeartbeats 8000000 in
theorem ok_Od {f fOn : Addr} {fd fdOn : FuncData} (F : Fun K "_law_odd" "_law_odd" sOd f fd)
    (FOn : Fun K "_law_one" "_law_one" sOne fOn fdOn) (bOn : Binds K fdOn ["_law_stream_here", "_law_items"] []) (gOn : mg "_law_one" = some (.ref fOn)) (GOn : FnOk P w K mg base CX0 2 fOn fdOn ["_law_stream_here", "_law_items"] (spOne K))
     :
    FnOk P w K mg base CX0 3 f fd ["_law_stream_here"] (spOd K) := by
  refine F.ok scOd (fun vs H Q E h => ?_) (fun cdv A outer s H vs Q E hr h => ?_)
  · obtain ⟨st, c, r, t, E', rfl, _⟩ := h; rfl
  · obtain ⟨st, c, r, t, E', rfl, D, ht, es, er, oc, q⟩ := h
    refine ⟨_, pss_cons (ps_set (i := 1) scOd.nd rfl (.inl rfl) (pe_lst (litsz_cons (litz_non pe_non) (litsz_cons (litz_bl pe_bl) (litsz_cons (litz_bl pe_bl) (litsz_cons (litz_int pe_int) (litsz_cons (litz_int pe_int) (litsz_cons (litz_int pe_int) (litsz_cons (litz_int pe_int) (litsz_cons (litz_neg (pe_un un_neg pe_int)) (litsz_cons (litz_pow (pe_op op_pow pe_int pe_int) ⟨by decide, by decide, by decide⟩) (litsz_cons (litz_str pe_str) (litsz_cons (litz_str pe_str) (litsz_cons (litz_tup litsz_nil (by decide)) (litsz_cons (litz_tup (litsz_cons (litz_int pe_int) litsz_nil) (by decide)) (litsz_cons (litz_lst litsz_nil (by decide)) (litsz_cons (litz_lst (litsz_cons (litz_int pe_int) litsz_nil) (by decide)) (litsz_cons litz_dict (litsz_cons (litz_tup (litsz_cons (litz_tup litsz_nil (by decide)) litsz_nil) (by decide)) (litsz_cons (litz_tup (litsz_cons (litz_bl pe_bl) litsz_nil) (by decide)) (litsz_cons (litz_pow (pe_op op_pow pe_int pe_int) ⟨by decide, by decide, by decide⟩) litsz_nil)))))))))))))))))))))
      (pss_one (ps_ret (pe_call GOn (hr.mono (by omega)) (by rfl) gOn FOn.kp bOn .nil pass0 (pa_cons (pv 0) (pa_cons (pv 1) pa_nil))))), ?_⟩
    refine ⟨E', oc, fun H1 vs s1 hv => ⟨by rw [DzAll.len hv]; exact small6 (by decide), fun Lo nLo => ?_⟩⟩
    have D1 := (D.same s1).new (o := .lst vs) nLo
    have oL := (D.same s1).off nLo
    have hv1 : DzAll K E' (upd H1 Lo (.lst vs)) vs odds := hv.lasts (.of (sameNew nLo))
    have sH := s1.trans (sameNew (o := .lst vs) nLo)
    have lv : vs.length = 19 := DzAll.len hv
    refine ⟨.ref st, rfl, .ref Lo, rfl, st, c, r, Lo, t, vs, rfl, D1, by omega, upd_same, oL.1, oL.2.2, by omega, by omega, fun H2 j x hx D2 X2 => ?_⟩
    obtain ⟨d, hd, hxd⟩ := DzAll.at hv1 hx
    exact q _ _ d D2 ((Ext.of sH).trans X2) (hxd.lasts (LastE.ext es er D1 X2)) (odd_fx (List.mem_of_getElem? hd))
set_option maxHeartbeats 16000000 in
theorem ok_Be {f fDr fOd fOn : Addr} {fd fdDr fdOd fdOn : FuncData} (F : Fun K "_law_bent" "_law_bent" sBe f fd) (b : Binds K fd ["_law_stream_here", "_law_value"] []) (g : mg "_law_bent" = some (.ref f))
    (FDr : Fun K "_law_draw" "_law_draw" sDraw fDr fdDr) (bDr : Binds K fdDr ["_law_stream_here", "_law_bound"] []) (gDr : mg "_law_draw" = some (.ref fDr)) (GDr : FnOk P w K mg base CX0 1 fDr fdDr ["_law_stream_here", "_law_bound"] spDraw)
    (FOd : Fun K "_law_odd" "_law_odd" sOd fOd fdOd) (bOd : Binds K fdOd ["_law_stream_here"] []) (gOd : mg "_law_odd" = some (.ref fOd)) (GOd : FnOk P w K mg base CX0 3 fOd fdOd ["_law_stream_here"] (spOd K))
    (FOn : Fun K "_law_one" "_law_one" sOne fOn fdOn) (bOn : Binds K fdOn ["_law_stream_here", "_law_items"] []) (gOn : mg "_law_one" = some (.ref fOn)) (GOn : FnOk P w K mg base CX0 2 fOn fdOn ["_law_stream_here", "_law_items"] (spOne K))
    (m_tuple : mg "tuple" = none) (m_isinstance : mg "isinstance" = none) (m_len : mg "len" = none) (m_list : mg "list" = none) (m_int : mg "int" = none) (m_str : mg "str" = none) :
    ∀ n, FnOk P w K mg base CX0 n f fd ["_law_stream_here", "_law_value"] (spBe K n)
  | 0 => ⟨fun _ _ _ _ h => h.elim, fun _ _ _ _ _ _ _ _ _ _ _ _ _ h => h.elim⟩
  | n + 1 => by
    have G := ok_Be F b g FDr bDr gDr GDr FOd bOd gOd GOd FOn bOn gOn GOn m_tuple m_isinstance m_len m_list m_int m_str n
    refine F.ok scBe (fun vs H Q E h => ?_) (fun cdv A outer s H vs Q E hr h => ?_)
    · obtain ⟨st, c, r, t, v, d, M, k, W, E', rfl, _⟩ := h; rfl
    obtain ⟨st, c, r, t, v, d, M, k, W, E', rfl, d0, ht, hd, hf, hM, hM2, hW, hdep, es, er, oc, q⟩ := h
    have hu0 : (A.deeper (envOfC "_law_bent" (defScope sBe) s.heap.objs.size f cdv)).units < cLine := by have := hr.un; omega
    have zL : sizeLine = 16777216 := by decide
    refine ⟨_, pss_cons (ps_if (PW.pt (pw_and (pt_val (pe_callB call_isi (by rfl) m_isinstance (by decide +kernel) (pa_cons (pv 1) (pa_cons (pe_bltn (v := .ty "tuple") (by rfl) m_tuple (by decide +kernel) rfl) pa_nil)))) (pw_and (pt_cmpR (op_neNilT hu0) (pv 1) (pe_tup (pa_nil)) (nomark _)) (pw_and1 (pt_cmpR op_gt (pe_call GDr (hr.mono (by omega)) (by rfl) gDr FDr.kp bDr .nil pass0 (pa_cons (pv 0) (pa_cons (pe_int) pa_nil))) (pe_int) (nomark _))))))
        (pss_cons (ps_set (i := 2) scBe.nd rfl (.inl rfl) (pe_call GDr (hr.mono (by omega)) (by rfl) gDr FDr.kp bDr .nil pass0 (pa_cons (pv 0) (pa_cons (pe_callB call_lenQ (by rfl) m_len PySem.boot_len (pa_cons (pv 1) pa_nil)) pa_nil))))
        (pss_one (ps_ret (pe_op op_catA (pe_op op_catA (pe_slice sl_tupA (pv 1) po_none (po_some (pv 2))) (pe_tup (pa_cons (pe_call G hr (by rfl) g F.kp b .nil pass0 (pa_cons (pv 0) (pa_cons (pe_ix ix_tup (pv 1) (pv 2) (fun _ _ => rfl)) pa_nil))) pa_nil))) (pe_slice sl_tupA (pv 1) (po_some (pe_op op_add (pv 2) (pe_int))) po_none))))) pss_nil)
      (pss_cons (ps_if (pt_val (pe_callB call_isi (by rfl) m_isinstance (by decide +kernel) (pa_cons (pv 1) (pa_cons (pe_bltn (v := .ty "tuple") (by rfl) m_tuple (by decide +kernel) rfl) pa_nil))))
        (pss_cons (ps_set (i := 3) scBe.nd rfl (.inl rfl) (pe_lst (pa_cons (pe_slice sl_tupA (pv 1) (po_some (pe_int)) po_none) (pa_cons (pe_op op_catA (pv 1) (pe_slice sl_tupA (pv 1) po_none (po_some (pe_int)))) (pa_cons (pe_revT (pv 1)) (pa_cons (pe_callTy call_listS (by rfl) m_list (by decide +kernel) (pa_cons (pv 1) pa_nil)) (pa_cons (pe_call GOd (hr.mono (by omega)) (by rfl) gOd FOd.kp bOd .nil pass0 (pa_cons (pv 0) pa_nil)) (pa_cons (pe_slice sl_tupA (pv 1) po_none (po_some (pe_un un_neg (pe_int)))) pa_nil))))))))
        (pss_one (ps_ret (pe_call GOn (hr.mono (by omega)) (by rfl) gOn FOn.kp bOn .nil pass0 (pa_cons (pv 0) (pa_cons (pv 3) pa_nil)))))) pss_nil)
      (pss_cons (ps_if (pt_val (pe_callB call_isi (by rfl) m_isinstance (by decide +kernel) (pa_cons (pv 1) (pa_cons (pe_bltn (v := .ty "int") (by rfl) m_int (by decide +kernel) rfl) pa_nil))))
        (pss_one (ps_ret (pe_call GOn (hr.mono (by omega)) (by rfl) gOn FOn.kp bOn .nil pass0 (pa_cons (pv 0) (pa_cons (pe_lst (pa_cons (pe_op op_addN (pv 1) (pe_int)) (pa_cons (pe_op op_subN (pv 1) (pe_int)) (pa_cons (pe_op op_addN (pv 1) (pe_int)) (pa_cons (pe_cmpR op_eqN (pv 1) (pe_int) (nomark _)) (pa_cons (pe_callTy call_strN (by rfl) m_str (by decide +kernel) (pa_cons (pv 1) pa_nil)) (pa_cons (pe_int) (pa_cons (pe_call GOd (hr.mono (by omega)) (by rfl) gOd FOd.kp bOd .nil pass0 (pa_cons (pv 0) pa_nil)) pa_nil)))))))) pa_nil))))) pss_nil)
      (pss_one (ps_ret (pe_call GOd (hr.mono (by omega)) (by rfl) gOd FOd.kp bOd .nil pass0 (pa_cons (pv 0) pa_nil)))))), ?_⟩
    refine (id ?_ : tSeq (tIfS _ _ _) _ _ _ _)
    refine seq_with2 (fun σ1 H3 => σ1 = [some (.ref st), some v, none, none] ∧ ∃ t1, DS H3 st c r t1 ∧ t1 ≤ t + 1 ∧ Ext st r H H3) ?restA (fun restA => ?mainA)
    case mainA =>
      refine ⟨v, rfl, v, .ty "tuple", _, _, _, rfl, .ty _, (hd.dq es er).ty, kit_tup d, _, rfl, ite2 (fun h1 => ?_) (fun h1 => ?_)⟩
      · obtain ⟨ds, rfl⟩ : ∃ ds, d = .tuple ds := by
          cases d with
          | tuple ds => exact ⟨ds, rfl⟩
          | _ => simp [isTup] at h1
        obtain ⟨a, xs, rfl, hT, ha⟩ := dz_sq hd
        have hl := DzAll.len ha
        obtain ⟨hp1, hp2, hp3⟩ := hf.parts
        have hwl := wxA_len ds
        refine ⟨.ref a, rfl, Nat.zero_le _, fun e ne => ⟨a, e, xs, rfl, rfl, sqS (sameNew ne) hT, SqT.of upd_same, _, rfl, ite2 (fun h2 => ?_) (fun h2 => ?_)⟩⟩
        · have hxs : 0 < xs.length := by
            cases xs with
            | nil => simp at h2
            | cons _ _ => simp
          have se : Same H (upd H e (.tup [])) := sameNew ne
          refine ⟨.ref st, rfl, st, c, r, t, 6, rfl, d0.same se, by omega, by decide, by decide, fun H3 g5 g50 g51 D3 X3 => ⟨_, _, rfl, rfl, _, rfl, ite2 (fun h3 => ?_) (fun h3 => ?_)⟩⟩
          · have X23 := (Ext.of se).trans X3
            have L3 := LastE.ext es er d0 X23
            refine ⟨.ref st, rfl, .ref a, rfl, a, xs, rfl, .inr (L3.tk.sq hT), st, c, r, t + 1, _, rfl, D3, by omega, by omega, by omega, fun H4 sp s0 s1 D4 X4 => ?_⟩
            obtain ⟨sn, rfl⟩ : ∃ m : Nat, sp = m := ⟨sp.toNat, by omega⟩
            have hsn : sn < xs.length := by omega
            have X24 := X23.trans X4
            have L4 := LastE.ext es er d0 X24
            have hT4 := L4.tk.sq hT
            obtain ⟨de, hde, hxe⟩ := DzAll.at ha (List.getElem?_eq_getElem hsn)
            have hmem := List.mem_of_getElem? hde
            obtain ⟨hfe, hk1, hdd⟩ := hp1 de hmem
            obtain ⟨n', rfl⟩ : ∃ n', n = n' + 1 := ⟨n - 1, by omega⟩
            have hwa := wxA_at hde
            have hx : xs[sn]? = some xs[sn] := List.getElem?_eq_getElem hsn
            refine ⟨.ref a, rfl, .int sn, rfl, sn, rfl, slAny (K := K) (a := a) (xs := xs) (lo := none) (hi := some (sn : Int)) hT4 (fun H9 b9 s9 hb9 => ?_)⟩
            rw [cut_to] at hb9
            have D9 := D4.same s9
            refine ⟨.ref st, rfl, .ref a, rfl, .int sn, rfl, a, xs, _, _, rfl, rfl, sqS s9 hT4, atI_nat hx, st, c, r, t + 1 + 1, _, de, M, k - 1, wx de, E', rfl, D9, by omega, (hxe.lasts L4).lasts (.of s9), ⟨hfe, by omega, Nat.le_refl _⟩, hM, hM2, by omega, by omega, es, er, occX oc (dsOcc D9) (X24.trans (.of s9)), fun H5 v4 d4 t4 D5 ht5 X5 hv4 hf4 => ?_⟩
            have L95 := LastE.ext es er D9 X5
            refine ⟨(show (1 : Nat) ≤ sizeLine by decide), fun R nR => ?_⟩
            have sR := sameNew (o := .tup [v4]) nR
            refine cat_eq (sqS sR (L95.tk.sq hb9)) (SqT.of upd_same) (by rw [List.length_take]; simp only [List.length_cons, List.length_nil]; omega) (fun H10 b10 s10 hb10 => ?_)
            have s510 := sR.trans s10
            refine ⟨.ref a, rfl, .int sn, rfl, _, _, rfl, rfl, ((sn + 1 : Nat) : Int), by simp, ?_⟩
            dsimp only [tNoPart]
            have L49 : LastE E' H H10 := (L4.trans (.of s9)).trans (L95.trans (.of s510))
            refine slAny (K := K) (a := a) (xs := xs) (lo := some ((sn + 1 : Nat) : Int)) (hi := none) (H := H10) (L49.tk.sq hT) (fun H11 b11 s11 hb11 => ?_)
            rw [cutFrom] at hb11
            refine cat_eq (sqS s11 hb10) hb11 (by rw [List.length_append, List.length_take, List.length_drop]; simp only [List.length_cons, List.length_nil]; omega) (fun H12 b12 s12 hb12 => ?_)
            have s512 := s510.trans (s11.trans s12)
            have L12 : LastE E' H H12 := L49.trans (.of (s11.trans s12))
            have hf4w := hf4.wx
            have hf4d := hf4.dp
            refine q H12 _ (.tuple (ds.take sn ++ [d4] ++ ds.drop (sn + 1))) t4 (D5.same s512) (by omega) (X24.trans ((Ext.of s9).trans (X5.trans (.of s512)))) (.tup hb12 (DzAll.app (DzAll.app (DzAll.take _ (ha.lasts L12)) (.cons (hv4.lasts (.of s512)) .nil)) (DzAll.drop _ (ha.lasts L12)))) ?_
            refine Fx.tup ?_ (by omega) ?_
            · intro x hx
              rw [List.append_assoc, List.mem_append, List.mem_append, List.mem_singleton] at hx
              rcases hx with h | rfl | h
              · have := hp1 x (List.mem_of_mem_take h)
                exact ⟨fit_mono (by omega) this.1, by omega⟩
              · exact ⟨hf4.ok, by omega⟩
              · have := hp1 x (List.mem_of_mem_drop h)
                exact ⟨fit_mono (by omega) this.1, by omega⟩
            · rw [wxA_app, wxA_app]
              simp only [wxA]
              omega
          · exact restA _ _ ⟨rfl, t + 1, D3, Nat.le_refl _, (Ext.of se).trans X3⟩
        · exact restA _ _ ⟨rfl, t, d0.new ne, by omega, Ext.of (sameNew ne)⟩
      · exact restA _ _ ⟨rfl, t, d0, by omega, Ext.of (Same.refl _)⟩
    rintro _ H3 ⟨rfl, t1, D3, ht1, X3⟩
    have hd3 := hd.lasts (LastE.ext es er d0 X3)
    refine ⟨v, rfl, v, .ty "tuple", _, _, _, rfl, .ty _, (hd3.dq es er).ty, kit_tup d, _, rfl, ite2 (fun h1 => ?_) (fun h1 => ?_)⟩
    · obtain ⟨ds, rfl⟩ : ∃ ds, d = .tuple ds := by
        cases d with
        | tuple ds => exact ⟨ds, rfl⟩
        | _ => simp [isTup] at h1
      obtain ⟨a, xs, rfl, hT, ha⟩ := dz_sq hd3
      have hl := DzAll.len ha
      obtain ⟨hp1, hp2, hp3⟩ := hf.parts
      have hwl := wxA_len ds
      have hfw := hf.wx
      refine ⟨.ref a, rfl, 1, rfl, ?_⟩
      dsimp only [tNoPart]
      refine slAny (K := K) (a := a) (xs := xs) (lo := some ((1 : Nat) : Int)) (hi := none) hT (fun H4 b1 s4 hb1 => ?_)
      refine ⟨.ref a, rfl, .ref a, rfl, 1, rfl, ?_⟩
      dsimp only [tNoPart]
      refine slAny (K := K) (a := a) (xs := xs) (lo := none) (hi := some ((1 : Nat) : Int)) (sqS s4 hT) (fun H5 b2 s5 hb2 => ?_)
      obtain ⟨m1, n1, e1⟩ := cut_part xs (some ((1 : Nat) : Int)) none
      obtain ⟨m2, n2, e2⟩ := cut_part xs none (some ((1 : Nat) : Int))
      rw [e1] at hb1
      rw [e2] at hb2
      have s35 := s4.trans s5
      refine cat_eq (sqS s35 hT) hb2 (by rw [List.length_take, List.length_drop]; omega) (fun H6 b3 s6 hb3 => ?_)
      have s36 := s35.trans s6
      refine ⟨.ref a, rfl, a, xs, rfl, sqS s36 hT, fun p np => ⟨.ref a, rfl, a, xs, rfl, sqS (s36.trans (sameNew np)) hT, fun Lz nLz mL => ?_⟩⟩
      have sp := sameNew (o := .tup xs.reverse) np
      have hp' : SqT K (upd H6 p (.tup xs.reverse)) p xs.reverse := SqT.of upd_same
      have oLz := (D3.same (s36.trans sp)).off nLz
      have nE := occE_ne (occX oc (dsOcc (D3.same (s36.trans sp))) (X3.trans (.of (s36.trans sp)))) nLz
      generalize upd H6 p (.tup xs.reverse) = H7 at sp hp' nLz oLz nE ⊢
      have sL := sameNew (o := .lst xs) nLz
      have eL : (upd H7 Lz (.lst xs)) Lz = some (.lst xs) := upd_same
      generalize upd H7 Lz (.lst xs) = H8 at sL eL ⊢
      have s38 := s36.trans (sp.trans sL)
      have D8 := D3.same s38
      have oc8 := occX oc (dsOcc D8) (X3.trans (.of s38))
      refine ⟨.ref st, rfl, st, c, r, t1, E', rfl, D8, by omega, es, er, oc8, fun H9 vo do' D9 X9 ho fo => ?_⟩
      have L89 := LastE.ext es er D8 X9
      have L39 : LastE E' H3 H9 := (LastE.of s38).trans L89
      refine ⟨.ref a, rfl, 1, rfl, -1, rfl, ?_⟩
      dsimp only [tNoPart]
      refine slAny (K := K) (a := a) (xs := xs) (lo := none) (hi := some (-1)) (L39.tk.sq hT) (fun H10 b4 s10 hb4 => ?_)
      obtain ⟨m4, n4, e4⟩ := cut_part xs none (some (-1))
      rw [e4] at hb4
      refine ⟨(show (6 : Nat) ≤ sizeLine by decide), fun Z nZ => ?_⟩
      have D10 := D9.same s10
      have oZ := D10.off nZ
      have sZ := sameNew (o := .lst [.ref b1, .ref b3, .ref p, .ref Lz, vo, .ref b4]) nZ
      have eZ : (upd H10 Z (.lst [.ref b1, .ref b3, .ref p, .ref Lz, vo, .ref b4])) Z = some (.lst [.ref b1, .ref b3, .ref p, .ref Lz, vo, .ref b4]) := upd_same
      generalize upd H10 Z (.lst [.ref b1, .ref b3, .ref p, .ref Lz, vo, .ref b4]) = H11 at sZ eZ ⊢
      have D11 := D10.same sZ
      have s911 := s10.trans sZ
      have L911 : LastE E' H9 H11 := .of s911
      have L311 := L39.trans L911
      have ha11 := ha.lasts L311
      have X311 : Ext st r H3 H11 := (Ext.of s38).trans (X9.trans (.of s911))
      have k411 : TupK H4 H11 := (TupK.of (s5.trans (s6.trans (sp.trans sL)))).trans (L89.tk.trans (TupK.of s911))
      have k611 : TupK H6 H11 := (TupK.of (sp.trans sL)).trans (L89.tk.trans (TupK.of s911))
      have k711 : TupK H7 H11 := (TupK.of sL).trans (L89.tk.trans (TupK.of s911))
      have hall : DzAll K E' H11 [.ref b1, .ref b3, .ref p, .ref Lz, vo, .ref b4] [.tuple ((ds.drop m1).take n1), .tuple (ds ++ (ds.drop m2).take n2), .tuple ds.reverse, .list ds, do', .tuple ((ds.drop m4).take n4)] :=
        .cons (.tup (k411.sq hb1) ((ha11.drop m1).take n1)) (.cons (.tup (k611.sq hb3) (ha11.app ((ha11.drop m2).take n2))) (.cons (.tup (k711.sq hp') ha11.rev) (.cons (.lst (s911 _ _ (X9 _ _ eL oLz.1 oLz.2.2)) nE mL ha11) (.cons (ho.lasts L911) (.cons (.tup (sqS sZ hb4) ((ha11.drop m4).take n4)) .nil)))))
      have hfit : ∀ x ∈ [PyData.tuple ((ds.drop m1).take n1), .tuple (ds ++ (ds.drop m2).take n2), .tuple ds.reverse, .list ds, do', .tuple ((ds.drop m4).take n4)], Fx (M + 1) (k + 2) (2 * W + 330) x := by
        intro x hx
        have w1 := wxA_part ds m1 n1
        have w2 := wxA_part ds m2 n2
        have w4 := wxA_part ds m4 n4
        simp only [List.mem_cons, List.not_mem_nil, or_false] at hx
        rcases hx with rfl | rfl | rfl | rfl | rfl | rfl
        · exact fx_sub hf (fun e he => part_mem he) (by omega)
        · exact fx_sub hf (fun e he => by
            rcases List.mem_append.mp he with h | h
            · exact h
            · exact part_mem h) (by rw [wxA_app]; omega)
        · exact fx_sub hf (fun e he => List.mem_reverse.mp he) (by rw [wxA_rev]; omega)
        · exact fx_subL hf (fun e he => he) (by omega)
        · exact fo.mono (by omega) (by omega) (by omega)
        · exact fx_sub hf (fun e he => part_mem he) (by omega)
      refine ⟨.ref st, rfl, .ref Z, rfl, st, c, r, Z, t1 + 1, _, rfl, D11, by omega, eZ, oZ.1, oZ.2.2, by simp, by simp, fun H12 j x hx D12 X12 => ?_⟩
      obtain ⟨dd, hdd, hdq⟩ := DzAll.at hall hx
      exact q _ _ dd _ D12 (by omega) (X3.trans (X311.trans X12)) (hdq.lasts (LastE.ext es er D11 X12)) (hfit dd (List.mem_of_getElem? hdd))
    refine ⟨v, rfl, v, .ty "int", _, _, _, rfl, .ty _, (hd3.dq es er).ty, kit_int d, _, rfl, ite2 (fun h2 => ?_) (fun h2 => ?_)⟩
    · have h2 : isInt d = true := h2
      obtain ⟨i, hN, hi⟩ := isN_of (hd3.dq es er) h2 hf.ok (by omega)
      refine ⟨.ref st, rfl, v, rfl, i, 1, hN, rfl, v, rfl, i, 1, hN, rfl, v, rfl, i, 1, hN, rfl, v, rfl, i, 1, hN, rfl, v, rfl, ?_⟩
      dsimp only [tNil]
      refine strN (M := M) (k := k) (W := 2 * W + 330) (hd3.dq es er) h2 hf.ok hM2 (by omega) fun tx ftx => ?_
      refine ⟨.ref st, rfl, st, c, r, t1, E', rfl, D3, by omega, es, er, occX oc (dsOcc D3) X3, fun H9 vo do' D9 X9 ho fo => ?_⟩
      refine ⟨(show (7 : Nat) ≤ sizeLine by decide), fun Z nZ => ?_⟩
      have oZ := D9.off nZ
      have sZ := sameNew (o := .lst [.int (i + 1), .int (i - 1), .int (i + 1), .bl (decide (i = 1)), .str tx, .int 0, vo]) nZ
      have eZ : (upd H9 Z (.lst [.int (i + 1), .int (i - 1), .int (i + 1), .bl (decide (i = 1)), .str tx, .int 0, vo])) Z = some (.lst [.int (i + 1), .int (i - 1), .int (i + 1), .bl (decide (i = 1)), .str tx, .int 0, vo]) := upd_same
      generalize upd H9 Z (.lst [.int (i + 1), .int (i - 1), .int (i + 1), .bl (decide (i = 1)), .str tx, .int 0, vo]) = H11 at sZ eZ ⊢
      have D11 := D9.same sZ
      have hall : DzAll K E' H11 [.int (i + 1), .int (i - 1), .int (i + 1), .bl (decide (i = 1)), .str tx, .int 0, vo] [.int (i + 1), .int (i - 1), .int (i + 1), .bool (decide (i = 1)), .str tx, .int 0, do'] :=
        .cons (.int _) (.cons (.int _) (.cons (.int _) (.cons (.bl _) (.cons (.str _) (.cons (.int _) (.cons (ho.lasts (.of sZ)) .nil))))))
      have hfit : ∀ x ∈ [PyData.int (i + 1), .int (i - 1), .int (i + 1), .bool (decide (i = 1)), .str tx, .int 0, do'], Fx (M + 1) (k + 2) (2 * W + 330) x := by
        intro x hx
        simp only [List.mem_cons, List.not_mem_nil, or_false] at hx
        rcases hx with rfl | rfl | rfl | rfl | rfl | rfl | rfl
        · exact Fx.int (by omega) (by omega)
        · exact Fx.int (by omega) (by omega)
        · exact Fx.int (by omega) (by omega)
        · exact Fx.bl (by omega)
        · exact ftx
        · exact Fx.int (by simp) (by omega)
        · exact fo.mono (by omega) (by omega) (by omega)
      refine ⟨st, c, r, Z, t1 + 1, _, rfl, D11, by omega, eZ, oZ.1, oZ.2.2, by simp, by simp, fun H12 j x hx D12 X12 => ?_⟩
      obtain ⟨dd, hdd, hdq⟩ := DzAll.at hall hx
      exact q _ _ dd _ D12 (by omega) (X3.trans (X9.trans ((Ext.of sZ).trans X12))) (hdq.lasts (LastE.ext es er D11 X12)) (hfit dd (List.mem_of_getElem? hdd))
    · refine ⟨.ref st, rfl, st, c, r, t1, E', rfl, D3, by omega, es, er, occX oc (dsOcc D3) X3, fun H9 vo do' D9 X9 ho fo => ?_⟩
      exact q _ _ do' _ D9 (by omega) (X3.trans X9) ho (fo.mono (by omega) (by omega) (by omega))
end
end Pv

/-! sorted(t), set(t), len(set(t)) of a tuple of ints -/
namespace PyProof.Rows
open PySem
section
variable {prog : Program} {w : World} {A : Around} {E : Value → Shared → Prop} {s : Shared}
theorem pv_collectTup {l : Addr} {vs : List Value} {Q : List Value → Shared → Prop} (hl : s.heap.IsTuple l vs.toArray) (hsz : vs.length ≤ sizeLine)
    (h : Q vs { s with heap := (s.heap.push (seqObj "list" #[] 0)).update s.heap.objs.size (Obj.mapSeq (· ++ vs.toArray)) }) : wpAny (model prog w) A (collect (.ref l)) Q E s := by
  obtain ⟨o, ho, hc, n, hd⟩ := id hl
  have ho1 : (s.heap.push (seqObj "list" #[] 0)).get? l = some o := Heap.get?_push_of_some _ ho
  have htt : (Value.type "tuple" == Value.type "tuple") = true := by rfl
  unfold collect; refine wpAny_bind (wpAny_runValue (codeAny_builtin entry_proto_collect' ?_))
  show wpAny _ _ (do again (.builtin "list.__iadd__" ⟨[← newList [], .ref l], []⟩)) _ _ _
  refine wpAny_bind (wpAny_newList (wpAny_pure ⟨Code.quiet_builtin _ (by decide +kernel), codeAny_builtin entry_list_iadd' ?body⟩))
  case body =>
    show wpAny _ _ (Builtin.List.listExtendWith (.ref s.heap.objs.size) (.ref l) (.ref s.heap.objs.size)) _ _ { s with heap := s.heap.push (seqObj "list" #[] 0), toks := s.toks }
    unfold Builtin.List.listExtendWith; refine wpAny_bind (wpAny_typeOf (T := "tuple") ⟨o, ho1, hc⟩ ?_)
    rw [if_pos (by rw [htt]; simp)]; refine wpAny_bind (listItems_at ho1 hd (wpAny_bind (listItems_at (xs := #[]) (n := 0) (Heap.get?_push_size _ rfl) rfl ?_)))
    rw [if_neg (by simp)]; refine wpAny_bind (listUpdate_at (xs := #[]) (n := 0) (Heap.get?_push_size _ rfl) rfl (wpAny_pure ?_) (Nat.zero_le _) (by show (#[] ++ vs.toArray).size ≤ sizeLine + 1; simp only [Array.size_append, List.size_toArray, List.length_nil]; omega))
    show wpAny (model prog w) A (do match (← load s.heap.objs.size).data with | .seq xs _ => pure xs.toList | _ => unsupported "internal:collect") Q E { s with heap := (s.heap.push (seqObj "list" #[] 0)).update s.heap.objs.size (Obj.mapSeq (· ++ vs.toArray)), toks := s.toks }
    refine wpAny_bind (wpAny_load (get?_update_seq (Heap.get?_push_size _ rfl) _) ?_)
    show wpAny _ _ (pure ((#[] : Array Value) ++ vs.toArray).toList) Q E { s with heap := _ }
    rw [show ((#[] : Array Value) ++ vs.toArray).toList = vs by simp]; exact wpAny_pure h
theorem pv_sortedTup {l : Addr} {vs : List Value} {ns : List Int} {Q : Value → Shared → Prop} (hl : s.heap.IsTuple l vs.toArray) (hI : IntsAre vs ns) (h64 : vs.length < 64)
    (h : ∀ (out : Array Value) (ns' : List Int), IntsAre out.toList ns' → ns'.Perm ns → ns'.Pairwise (· ≤ ·) → Q (.ref (s.heap.objs.size + 1)) { s with heap := sortedAll s.heap vs out }) :
    wpAny (model prog w) A (call (.builtin "sorted") [.ref l]) Q E s := by
  refine Calls.call_function_entry kind_sorted plain_sorted entry_sorted (args_sorted1 _) ?tree
  case tree =>
    unfold Builtin.«sorted»; refine wpAny_bind (m := checkCount "sorted" 1 1 _) (wpAny_pure (wpAny_bind (pv_collectTup hl (by rw [sizeLine_eq]; omega) (wpAny_bind (wpAny_newList ?new (by rw [sizeLine_eq]; omega))))))
    case new =>
      have e1 : ((s.heap.push (seqObj "list" #[] 0)).update s.heap.objs.size (Obj.mapSeq (· ++ vs.toArray))).objs.size = s.heap.objs.size + 1 := by rw [Heap.size_update, size_push']
      have e2 : (((s.heap.push (seqObj "list" #[] 0)).update s.heap.objs.size (Obj.mapSeq (· ++ vs.toArray))).push (seqObj "list" vs.toArray 0)).get? (s.heap.objs.size + 1) = some (seqObj "list" vs.toArray 0) := by rw [← e1]; exact Heap.get?_push_size _ rfl
      show wpAny _ _ _ _ _ { s with heap := ((s.heap.push (seqObj "list" #[] 0)).update s.heap.objs.size (Obj.mapSeq (· ++ vs.toArray))).push (seqObj "list" vs.toArray 0), toks := s.toks }
      rw [e1]; exact wpAny_bind (wpAny_holding (wpAny_call_entry slot_list_sort ⟨_, e2, rfl⟩ entry_list_sort (list_sort_tree e2 hI h64 fun out ns' a1 a2 a3 => ⟨_, rfl, wpAny_pure ⟨_, rfl, h out ns' a1 a2 a3⟩⟩) (args_list_sort _)))
end
end PyProof.Rows
namespace Pv
open PySem PySem.Spec PyProof.Rows L2
section
variable {X : Cx}
def rSortedT (K : PySem.W.Frag) : RC := fun vs H Q => ∃ (a : Addr) (ns : List Int), vs = [V.ref a] ∧ SqT K H a (ns.map V.int) ∧ ns.length < 64 ∧
  ∀ (ns' : List Int) (p : Addr), ns'.Perm ns → ns'.Pairwise (· ≤ ·) → H p = none → Q (.ref p) (upd H p (.lst (ns'.map V.int)))
theorem cr_sortedT : CallR X (.builtin "sorted") (rSortedT X.K) := by
  intro pins s σ H vs us Q I rel h
  obtain ⟨a, ns, e, hs, h64, q⟩ := h
  subst e
  obtain ⟨its, rv, ht, hz⟩ := I.tuple hs
  rw [Vals.ref1 rel]
  have hi := rv.ints
  refine pv_sortedTup (show s.heap.IsTuple a its.toArray from ht) hi (by rw [hi.length]; exact h64) ?_
  intro out ns' h1 h2 h3
  obtain ⟨ep, he⟩ := PyProof.Rows.sortedAll_at s.heap its out
  have hlen : (ns'.map V.int).length ≤ sizeLine := by rw [List.length_map, h2.length_eq, sizeLine_eq]; omega
  exact ⟨.ref _, _, I.laid (a := s.heap.objs.size + 1) (o := .lst (ns'.map V.int)) (t' := s.toks) (fun _ _ => PyProof.Rows.sortedAll_old) (Nat.le_succ _) ⟨hlen, out.toList, ep, vals_of_ints h1, he⟩, rfl, q ns' _ h2 h3 (I.hok.fresh (Nat.le_succ _))⟩
def rSetT (w : World) (K : PySem.W.Frag) : RC := fun vs H Q => ∃ (a : Addr) (ns : List Int), vs = [V.ref a] ∧ SqT K H a (ns.map V.int) ∧ ns.length < 60 ∧
  ∀ (p : Addr) (c : Nat), H p = none → (∃ ks : List Int, ks.Nodup ∧ (∀ k, k ∈ ks ↔ k ∈ ns) ∧ ks.length = c) → c ≤ ns.length → Q (.ref p) (upd H p (SetO w p (fun j => decide (j ∈ ns)) c))
theorem cr_setT (hc : X.calm = true) : CallR X (.type "set") (rSetT X.w X.K) := by
  intro pins s σ H vs us Q I rel h
  obtain ⟨a, ns, e, hs, h60, q⟩ := h
  subst e
  obtain ⟨its, rv, ht, hz⟩ := I.tuple hs
  rw [Vals.ref1 rel]
  have hi := rv.ints
  have hsb : scanBound > 61 := by decide
  refine call_set_tupI ns (I.ok.hd hc) (show s.heap.IsTuple a its.toArray from ht) (by simpa using hi) (by omega) ?_
  intro h' tk c R hcn kp
  refine ⟨.ref s.heap.objs.size, _, I.laid (a := s.heap.objs.size) (o := SetO X.w s.heap.objs.size (fun j => decide (j ∈ ns)) c) (t' := tk) kp (Nat.le_refl _) (setO_new R), rfl, q _ c (I.hok.fresh (Nat.le_refl _)) ?_ hcn⟩
  obtain ⟨o, es, ep, t, _, _, _, _, nd, hm, _, _, hn, _⟩ := R
  exact ⟨es.toList.map keyOf, nd, fun k => by rw [← hm k]; simp, by rw [List.length_map, Array.length_toList]; exact hn⟩
def rLenS' (w : World) : RC := fun vs H Q => ∃ (a : Addr) (S : Int → Bool) (n : Nat), vs = [V.ref a] ∧ H a = some (SetO w a S n) ∧ Q (.int n) H
theorem cr_lenSet : CallR X (.builtin "len") (rLenS' X.w) := by
  intro pins s σ H vs us Q I rel h
  obtain ⟨a, S, n, e, ha, q⟩ := h
  subst e
  rw [Vals.ref1 rel]
  obtain ⟨o, es, ep, t, ho, hx, hd, _, _, _, hb, hf, hn, _⟩ := setO_get I ha
  subst hn
  have hsb : scanBound < 2 ^ 62 := by decide
  exact call_len_set ho hx hd hf (by omega) ⟨.int _, H, I.tok _, ⟨_, rfl⟩, q⟩
end
/-! what the size of the set tells -/
theorem len_sub : ∀ {ks ns : List Int}, ks.Nodup → (∀ k ∈ ks, k ∈ ns) → ks.length ≤ ns.length
  | [], _, _, _ => Nat.zero_le _
  | k :: ks, ns, nd, h => by
    obtain ⟨n1, n2⟩ := List.nodup_cons.mp nd
    have hk := h k (by simp)
    have h1 := len_sub (ks := ks) (ns := ns.erase k) n2 (fun x hx => by
      have hne : x ≠ k := fun z => n1 (by rw [← z]; exact hx)
      exact (List.mem_erase_of_ne hne).mpr (h x (by simp [hx])))
    rw [List.length_erase_of_mem hk] at h1
    have := List.length_pos_of_mem hk
    rw [List.length_cons]; omega
theorem len_nodup : ∀ {ns ks : List Int}, ks.Nodup → (∀ k, k ∈ ks ↔ k ∈ ns) → (ks.length = ns.length ↔ ns.Nodup) := by
  intro ns ks nd hm
  constructor
  · intro hl
    induction ns generalizing ks with
    | nil => exact List.nodup_nil
    | cons n ns ih =>
      have hn : n ∈ ks := (hm n).mpr (by simp)
      have hnot : n ∉ ns := by
        intro hin
        have := len_sub nd (ns := ns) (fun k hk => by
          rcases List.mem_cons.mp ((hm k).mp hk) with rfl | h
          · exact hin
          · exact h)
        rw [List.length_cons] at hl; omega
      refine List.nodup_cons.mpr ⟨hnot, ih (ks := ks.erase n) (nd.erase n) (fun k => ?_) ?_⟩
      · rw [nd.mem_erase_iff, hm k, List.mem_cons]
        constructor
        · rintro ⟨h1, h2 | h2⟩
          · exact absurd h2 h1
          · exact h2
        · intro h
          exact ⟨fun z => hnot (z ▸ h), .inr h⟩
      · rw [List.length_erase_of_mem hn, hl, List.length_cons]; rfl
  · intro hn
    exact Nat.le_antisymm (len_sub nd fun k hk => (hm k).mp hk) (len_sub hn fun k hk => (hm k).mpr hk)
theorem lt_unique : ∀ {as bs : List Int}, as.Pairwise (· < ·) → bs.Pairwise (· < ·) → (∀ k, k ∈ as ↔ k ∈ bs) → as = bs
  | [], [], _, _, _ => rfl
  | [], b :: bs, _, _, h => by have := (h b).mpr (by simp); cases this
  | a :: as, [], _, _, h => by have := (h a).mp (by simp); cases this
  | a :: as, b :: bs, ha, hb, h => by
    obtain ⟨a1, a2⟩ := List.pairwise_cons.mp ha
    obtain ⟨b1, b2⟩ := List.pairwise_cons.mp hb
    have e : a = b := by
      rcases List.mem_cons.mp ((h a).mp (by simp)) with h1 | h1
      · exact h1
      · rcases List.mem_cons.mp ((h b).mpr (by simp)) with h2 | h2
        · exact h2.symm
        · have := b1 a h1; have := a1 b h2; omega
    subst e
    rw [lt_unique a2 b2 (fun k => ?_)]
    constructor
    · intro hk
      rcases List.mem_cons.mp ((h k).mp (List.mem_cons_of_mem _ hk)) with h1 | h1
      · have := a1 k hk; omega
      · exact h1
    · intro hk
      rcases List.mem_cons.mp ((h k).mpr (List.mem_cons_of_mem _ hk)) with h1 | h1
      · have := b1 k hk; omega
      · exact h1
theorem sort_nodup {ns ns' ms : List Int} (hp : ns'.Perm ns) (hs : ns'.Pairwise (· ≤ ·)) (hm : ms.Pairwise (· < ·)) (h : ∀ k, k ∈ ms ↔ k ∈ ns) : ns' = ms ↔ ns.Nodup := by
  constructor
  · intro e
    subst e
    exact hp.nodup_iff.mp (hm.imp fun {a b} h => by omega)
  · intro hn
    have hn' : ns'.Nodup := hp.nodup_iff.mpr hn
    refine lt_unique ?_ hm (fun k => by rw [hp.mem_iff, h k])
    exact (hs.and hn').imp fun {a b} h => by have := h.1; have := h.2; omega
end Pv

namespace Pv
open PySem PySem.Spec PyProof.Rows L2

mutual
theorem Dz.more {K : PySem.W.Frag} {E : Addr → Prop} {H : Hp} {N : Addr} (np : H N = none) : ∀ {d : PyData} {v : V}, Dz K E H v d → Dz K (fun a => E a ∨ a = N) H v d
  | .none, _, h => by cases h; exact .non
  | .bool _, _, h => by cases h; exact .bl _
  | .int _, _, h => by cases h; exact .int _
  | .str _, _, h => by cases h; exact .str _
  | .list _, _, h => by
    cases h with
    | lst e n1 n3 hd => exact .lst e (fun z => by
        rcases z with z | z
        · exact n1 z
        · rw [z, np] at e; cases e) n3 (DzAll.more np hd)
  | .tuple _, _, h => by
    cases h with
    | tup e hd => exact .tup e (DzAll.more np hd)
  | .dict _, _, h => by
    cases h with
    | dct e => exact .dct e
theorem DzAll.more {K : PySem.W.Frag} {E : Addr → Prop} {H : Hp} {N : Addr} (np : H N = none) : ∀ {ds : List PyData} {vs : List V}, DzAll K E H vs ds → DzAll K (fun a => E a ∨ a = N) H vs ds
  | [], _, h => by cases h; exact .nil
  | _ :: _, _, h => by
    cases h with
    | cons h1 h2 => exact .cons (Dz.more np h1) (DzAll.more np h2)
end
/-- a list that is kept out is written to -/
theorem LastE.put {E : Addr → Prop} {H : Hp} {N : Addr} {xs ys : List V} (e : H N = some (.lst xs)) (hN : E N) : LastE E H (upd H N (.lst ys)) := by
  refine ⟨fun b zs => ⟨fun h => ?_, fun u h => ?_⟩, fun a zs h n => ?_, fun a kvs h => ?_⟩
  · rw [upd_ne (by intro z; rw [z, e] at h; cases h)]; exact h
  · rw [upd_ne (by intro z; rw [z, e] at h; cases h)]; exact h
  · rw [upd_ne (by intro z; exact n (z ▸ hN))]; exact h
  · rw [upd_ne (by intro z; rw [z, e] at h; cases h)]; exact h
theorem sum_abs {B : Nat} : ∀ {l : List Int}, (∀ x ∈ l, x.natAbs ≤ B) → l.sum.natAbs ≤ B * l.length
  | [], _ => by simp
  | a :: l, h => by
    have h1 := h a List.mem_cons_self
    have h2 := sum_abs (l := l) fun x hx => h x (List.mem_cons_of_mem _ hx)
    have e : B * (l.length + 1) = B * l.length + B := Nat.mul_succ ..
    rw [List.sum_cons, List.length_cons]
    omega
theorem flat_len {α : Type} {m : Nat} : ∀ {l : List (List α)}, (∀ x ∈ l, x.length ≤ m) → l.flatten.length ≤ m * l.length
  | [], _ => by simp
  | a :: l, h => by
    have h1 := h a List.mem_cons_self
    have h2 := flat_len (l := l) fun x hx => h x (List.mem_cons_of_mem _ hx)
    have e : m * (l.length + 1) = m * l.length + m := Nat.mul_succ ..
    rw [List.flatten_cons, List.length_append, List.length_cons]
    omega
/-- small tables -/
structure SmT (tabs : List (List (List Int))) : Prop where
  l : tabs.length ≤ 3
  t : ∀ T ∈ tabs, T.length ≤ 4 ∧ ∀ r ∈ T, r.length ≤ 4 ∧ ∀ x ∈ r, x.natAbs ≤ 2
theorem votes_small {tabs : List (List (List Int))} (h : SmT tabs) : (votesOf tabs).sum.natAbs ≤ 96 := by
  have ent : ∀ x ∈ votesOf tabs, x.natAbs ≤ 2 := by
    intro x hx
    unfold votesOf at hx
    obtain ⟨l, hl, hx⟩ := List.mem_flatten.mp hx
    obtain ⟨T, hT, rfl⟩ := List.mem_map.mp hl
    obtain ⟨l2, hl2, hx⟩ := List.mem_flatten.mp hx
    unfold tabVotes at hl2
    obtain ⟨i, hi, rfl⟩ := List.mem_map.mp hl2
    have hi := List.mem_range.mp hi
    unfold rowVotes at hx
    obtain ⟨j, hj, rfl⟩ := List.mem_map.mp hx
    have hj := List.mem_range.mp hj
    obtain ⟨_, h2⟩ := h.t T hT
    have e : T.getD i [] = T[i] := by rw [List.getD_eq_getElem?_getD, List.getElem?_eq_getElem hi]; rfl
    rw [e] at hj ⊢
    obtain ⟨_, h3⟩ := h2 T[i] (List.getElem_mem hi)
    have e2 : T[i].getD j 0 = T[i][j] := by rw [List.getD_eq_getElem?_getD, List.getElem?_eq_getElem hj]; rfl
    rw [e2]
    have h4 := h3 _ (List.getElem_mem hj)
    obtain ⟨v1, v2⟩ := vote_le (i : Int) (j : Int)
    rcases (show voteI (i : Int) (j : Int) = -1 ∨ voteI (i : Int) (j : Int) = 0 ∨ voteI (i : Int) (j : Int) = 1 by omega) with e | e | e <;> rw [e] <;> omega
  have len : (votesOf tabs).length ≤ 48 := by
    have : (votesOf tabs).length ≤ 16 * (tabs.map fun t => (tabVotes t).flatten).length := by
      unfold votesOf
      refine flat_len fun l hl => ?_
      obtain ⟨T, hT, rfl⟩ := List.mem_map.mp hl
      obtain ⟨h1, h2⟩ := h.t T hT
      have : (tabVotes T).flatten.length ≤ 4 * (tabVotes T).length := flat_len fun l hl => by
        unfold tabVotes at hl
        obtain ⟨i, hi, rfl⟩ := List.mem_map.mp hl
        have hi := List.mem_range.mp hi
        rw [rowVotes_len, show T.getD i [] = T[i] by rw [List.getD_eq_getElem?_getD, List.getElem?_eq_getElem hi]; rfl]
        exact (h2 _ (List.getElem_mem hi)).1
      rw [tabVotes_len] at this
      omega
    rw [List.length_map] at this
    have := h.l
    omega
  have := sum_abs ent
  omega
theorem wxA_small : ∀ {ns : List Int}, (∀ x ∈ ns, x.natAbs ≤ 2) → wxA (ns.map PyData.int) = 5 * ns.length
  | [], _ => rfl
  | n :: ns, h => by
    have h1 := h n List.mem_cons_self
    have h2 := wxA_small (ns := ns) fun x hx => h x (List.mem_cons_of_mem _ hx)
    simp only [List.map_cons, wxA, wx, h2, List.length_cons]
    rw [if_pos (by omega)]
    omega
theorem wxA_le {B : Nat} : ∀ {ds : List PyData}, (∀ d ∈ ds, wx d ≤ B) → wxA ds ≤ (B + 2) * ds.length
  | [], _ => by simp [wxA]
  | d :: ds, h => by
    have h1 := h d List.mem_cons_self
    have h2 := wxA_le (ds := ds) fun x hx => h x (List.mem_cons_of_mem _ hx)
    have e : (B + 2) * (ds.length + 1) = (B + 2) * ds.length + (B + 2) := Nat.mul_succ ..
    simp only [wxA, List.length_cons]
    omega
theorem row_fx {r : List Int} (hl : r.length ≤ 4) (h : ∀ x ∈ r, x.natAbs ≤ 2) : Fx (10 ^ 29) 1 23 (dI r) := by
  refine Fx.tup (fun d hd => ?_) (by decide) (by rw [wxA_small h]; omega)
  obtain ⟨x, hx, rfl⟩ := List.mem_map.mp hd
  have := h x hx
  exact ⟨by simp only [fit]; omega, by simp [PyData.depth]⟩
theorem tab_fx {T : List (List Int)} (hl : T.length ≤ 4) (h : ∀ r ∈ T, r.length ≤ 4 ∧ ∀ x ∈ r, x.natAbs ≤ 2) : Fx (10 ^ 29) 2 103 (dAsg T) := by
  have hw := wxA_le (B := 23) (ds := T.map dI) fun d hd => by
    obtain ⟨r, hr, rfl⟩ := List.mem_map.mp hd
    exact (row_fx (h r hr).1 (h r hr).2).wx
  rw [List.length_map] at hw
  refine Fx.tup (fun d hd => ?_) (by decide) (by omega)
  obtain ⟨r, hr, rfl⟩ := List.mem_map.mp hd
  have := row_fx (h r hr).1 (h r hr).2
  exact ⟨this.ok, by have := this.dp; omega⟩
theorem tabs_fx {tabs : List (List (List Int))} (h : SmT tabs) : Fx (10 ^ 29) 3 318 (dTabs tabs) := by
  have hw := wxA_le (B := 103) (ds := tabs.map dAsg) fun d hd => by
    obtain ⟨T, hT, rfl⟩ := List.mem_map.mp hd
    exact (tab_fx (h.t T hT).1 (h.t T hT).2).wx
  rw [List.length_map] at hw
  have hl := h.l
  refine Fx.tup (fun d hd => ?_) (by decide) (by omega)
  obtain ⟨T, hT, rfl⟩ := List.mem_map.mp hd
  have := tab_fx (h.t T hT).1 (h.t T hT).2
  exact ⟨this.ok, by have := this.dp; omega⟩
structure SmQ (q : List Int) : Prop where
  l : q.length ≤ 3
  b : ∀ x ∈ q, 0 ≤ x ∧ x ≤ 2
theorem q_fx {q : List Int} (h : SmQ q) : Fx (10 ^ 29) 1 23 (dI q) := row_fx (by have := h.l; omega) fun x hx => by have := h.b x hx; omega
theorem int_fx {n : Int} (h : n.natAbs ≤ 96) : Fx (10 ^ 29) 0 3 (.int n) := ⟨by simp only [fit]; omega, by simp [PyData.depth], by simp only [wx]; rw [if_pos (by omega)]; omega⟩
/-- what the bent values start from -/
def St (d : PyData) : Prop := Fx (10 ^ 29) 4 400 d
theorem tri_fx {n : Int} {tabs : List (List (List Int))} {q : List Int} (h1 : n.natAbs ≤ 96) (h2 : SmT tabs) (h3 : SmQ q) : St (.tuple [.int n, dTabs tabs, dI q]) := by
  have a := int_fx h1
  have b := tabs_fx h2
  have c := q_fx h3
  refine Fx.tup (fun d hd => ?_) (by decide) ?_
  · simp only [List.mem_cons, List.not_mem_nil, or_false] at hd
    rcases hd with rfl | rfl | rfl
    · exact ⟨a.ok, by have := a.dp; omega⟩
    · exact ⟨b.ok, by have := b.dp; omega⟩
    · exact ⟨c.ok, by have := c.dp; omega⟩
  · have := a.wx
    have := b.wx
    have := c.wx
    simp only [wxA]
    omega
theorem list_fx {n : Int} {tabs : List (List (List Int))} {q : List Int} (h1 : n.natAbs ≤ 96) (h2 : SmT tabs) (h3 : SmQ q) : St (.list [.int n, dTabs tabs, dI q]) := by
  have a := int_fx h1
  have b := tabs_fx h2
  have c := q_fx h3
  refine Fx.lst (fun d hd => ?_) (by decide) ?_
  · simp only [List.mem_cons, List.not_mem_nil, or_false] at hd
    rcases hd with rfl | rfl | rfl
    · exact ⟨a.ok, by have := a.dp; omega⟩
    · exact ⟨b.ok, by have := b.dp; omega⟩
    · exact ⟨c.ok, by have := c.dp; omega⟩
  · have := a.wx
    have := b.wx
    have := c.wx
    simp only [wxA]
    omega
theorem two_fx {n : Int} {tabs : List (List (List Int))} (h1 : n.natAbs ≤ 96) (h2 : SmT tabs) : St (.tuple [.int n, dTabs tabs]) := by
  have a := int_fx h1
  have b := tabs_fx h2
  refine Fx.tup (fun d hd => ?_) (by decide) ?_
  · simp only [List.mem_cons, List.not_mem_nil, or_false] at hd
    rcases hd with rfl | rfl
    · exact ⟨a.ok, by have := a.dp; omega⟩
    · exact ⟨b.ok, by have := b.dp; omega⟩
  · have := a.wx
    have := b.wx
    simp only [wxA]
    omega
theorem four_fx {n : Int} {tabs : List (List (List Int))} {q : List Int} (h1 : n.natAbs ≤ 96) (h2 : SmT tabs) (h3 : SmQ q) : St (.tuple [.int n, dTabs tabs, dI q, .int 0]) := by
  have a := int_fx h1
  have b := tabs_fx h2
  have c := q_fx h3
  have z : Fx (10 ^ 29) 0 3 (.int 0) := int_fx (by decide)
  refine Fx.tup (fun d hd => ?_) (by decide) ?_
  · simp only [List.mem_cons, List.not_mem_nil, or_false] at hd
    rcases hd with rfl | rfl | rfl | rfl
    · exact ⟨a.ok, by have := a.dp; omega⟩
    · exact ⟨b.ok, by have := b.dp; omega⟩
    · exact ⟨c.ok, by have := c.dp; omega⟩
    · exact ⟨z.ok, by have := z.dp; omega⟩
  · have := a.wx
    have := b.wx
    have := c.wx
    have := z.wx
    simp only [wxA]
    omega
structure SmR (rows : List (List Int)) : Prop where
  l : rows.length ≤ 3
  r : ∀ row ∈ rows, row.length ≤ 4 ∧ ∀ x ∈ row, 0 ≤ x ∧ x ≤ 2
theorem smr_of {cs : List Int} {gs : List Gp} {rows : List (List Int)} (hM : MIn cs gs rows) (h3 : cs.length ≤ 3) (hg : gs.length ≤ 3) (h2 : ∀ g ∈ gs, g.2 ≤ 2) : SmR rows := by
  refine ⟨by rw [hM.rl]; exact hg, fun row hrow => ?_⟩
  obtain ⟨j, hj⟩ := List.getElem?_of_mem hrow
  have hjl := (List.getElem?_eq_some_iff.mp hj).1
  have hjg : j < gs.length := by rw [← hM.rl]; exact hjl
  obtain ⟨l1, l2, l3⟩ := hM.sh j _ row (List.getElem?_eq_getElem hjg) hj
  have hm := List.getElem_mem hjg
  obtain ⟨g1, g2, _⟩ := hM.gp _ hm
  have gl : gs[j].1.length ≤ 3 := by
    have := len_sub (ns := (List.range cs.length).map (fun (k : Nat) => (k : Int))) g2 fun p hp => by
      have := g1 p hp
      exact List.mem_map.mpr ⟨p.toNat, List.mem_range.mpr (by omega), by omega⟩
    rw [List.length_map, List.length_range] at this
    omega
  refine ⟨by omega, fun x hx => ⟨l3 x hx, ?_⟩⟩
  have := mem_le_sum l3 x hx
  have := h2 _ hm
  omega
theorem smt_cert {cs : List Int} {gs : List Gp} {rows : List (List Int)} {tabs : List (List (List Int))} (tb : ChTb gs rows tabs) (hM : MIn cs gs rows) (h : SmR rows) : SmT tabs := by
  have hrl := hM.rl
  have h3 := h.l
  refine ⟨by rw [tb.tl]; omega, fun T hT => ?_⟩
  obtain ⟨j, hj⟩ := List.getElem?_of_mem hT
  have hjl := (List.getElem?_eq_some_iff.mp hj).1
  have hjg : j < gs.length := by rw [← tb.tl]; exact hjl
  have hjr : j < rows.length := by omega
  have k := tb.tb j hjg
  have e1 : rows.getD j [] = rows[j] := by rw [List.getD_eq_getElem?_getD, List.getElem?_eq_getElem hjr]; rfl
  have e2 : tabs.getD j [] = T := by rw [List.getD_eq_getElem?_getD, hj]; rfl
  rw [e1, e2] at k
  obtain ⟨r4, rb⟩ := h.r _ (List.getElem_mem hjr)
  have krl := k.rl
  have ktl := k.tl
  refine ⟨by omega, fun r hr => ?_⟩
  obtain ⟨s, hs⟩ := List.getElem?_of_mem hr
  have hsl := (List.getElem?_eq_some_iff.mp hs).1
  have e3 : T.getD s [] = r := by rw [List.getD_eq_getElem?_getD, hs]; rfl
  have c1 := k.cl s (by omega)
  have c2 := k.sm s (by omega)
  have c3 := k.nn s
  rw [e3] at c1 c2 c3
  have hsr : s < rows[j].length := by omega
  have e4 : rows[j].getD s 0 = rows[j][s] := by rw [List.getD_eq_getElem?_getD, List.getElem?_eq_getElem hsr]; rfl
  rw [e4] at c2
  have b2 := rb _ (List.getElem_mem hsr)
  have nn : ∀ x ∈ r, 0 ≤ x := fun x hx => by
    obtain ⟨e, he⟩ := List.getElem?_of_mem hx
    have hel := (List.getElem?_eq_some_iff.mp he).1
    have := c3 e (by omega) (by omega)
    rw [List.getD_eq_getElem?_getD, he] at this
    exact this
  refine ⟨by omega, fun x hx => ?_⟩
  have := nn x hx
  have := mem_le_sum nn x hx
  omega
theorem smt_stay {rows : List (List Int)} (h : SmR rows) : SmT (rows.map stayTab) := by
  refine ⟨by rw [List.length_map]; exact h.l, fun T hT => ?_⟩
  obtain ⟨row, hrow, rfl⟩ := List.mem_map.mp hT
  obtain ⟨r4, rb⟩ := h.r row hrow
  refine ⟨by simp [stayTab]; exact r4, fun r hr => ?_⟩
  unfold stayTab at hr
  obtain ⟨i, hi, rfl⟩ := List.mem_map.mp hr
  refine ⟨by simp [stayRow]; exact r4, fun x hx => ?_⟩
  unfold stayRow at hx
  obtain ⟨j, hj, rfl⟩ := List.mem_map.mp hx
  have hj := List.mem_range.mp hj
  split
  · rw [List.getD_eq_getElem?_getD, List.getElem?_eq_getElem hj]
    have := rb _ (List.getElem_mem hj)
    show row[j].natAbs ≤ 2
    omega
  · decide
end Pv

namespace Pv
open PySem PySem.Spec PyProof.Rows L2
abbrev sLa : Stmt := topS 45
theorem scLa : FnScope ["_law_script", "_law_stream_here", "_law_turn", "_law_instance", "_law_assignment_here", "_law_other", "_law_own", "_law_strange", "_law_prices", "_law_stay", "_law_values", "_law_k", "_law_value", "_law_kept", "_law_due_here", "_law_post"] ["_law_script"] (defScope sLa) := ⟨rfl, rfl, rfl, by decide +kernel, rfl, by decide +kernel, by decide +kernel⟩
theorem cert_open {K : PySem.W.Frag} {H : Hp} {p : Addr} {rows : List (List Int)} {t : Tr.T} (h : Dp K H (.ref p) (dCert rows t)) : ∃ ch qa : Addr, SqT K H p [.int (votesOf (certTabs rows t)).sum, .ref ch, .ref qa] ∧ Dp K H (.ref ch) (dTabs (certTabs rows t)) ∧ Dp K H (.ref qa) (dI (certPr t)) := by
  cases h with
  | tup h1 h2 =>
  cases h2 with
  | cons a1 a2 =>
  cases a2 with
  | cons b1 b2 =>
  cases b2 with
  | cons c1 c2 =>
  cases c2 with
  | nil =>
  cases a1
  have b1' := b1
  have c1' := c1
  cases b1 with
  | tup _ _ =>
  cases c1 with
  | tup _ _ => exact ⟨_, _, h1, b1', c1'⟩

def rReprA (K : PySem.W.Frag) : RC := fun xs H Q => ∃ v d st r, xs = [v] ∧ Dq K st r H v d ∧ d.showable = true ∧ d.depth ≤ 60 ∧ d.shown.length ≤ sizeLine ∧ Q (.str d.shown) H
theorem call_reprR {X : Cx} (hg : X.A.guards = some []) (hu : X.A.units + 70 < cLine) : CallR X (.builtin "repr") (rReprA X.K) := call_reprA hg hu
section
variable {P : Program} {w : World} {K : PySem.W.Frag} {mg : Str → Option Value} {base : Heap}
theorem be36 {st c r : Addr} {t : Nat} {v : V} {d : PyData} {M k W : Nat} {E : Addr → Prop} {H : Hp} {Q : VK} {X : XK} (h1 : DS H st c r t) (h2 : t + 360 ≤ 900000) (h3 : Dz K E H v d) (h4 : Fx M k W d) (h5 : 10 ^ 29 ≤ M) (h5' : M ≤ 10 ^ 29 + 100) (h6 : W ≤ 8000000) (h7 : d.depth ≤ 32) (es : E st) (er : E r) (oc : ∀ a, E a → H a ≠ none)
    (h8 : ∀ (H' : Hp) (v' : V) (d' : PyData) (t' : Nat), DS H' st c r t' → t' ≤ t + 360 → Ext st r H H' → Dz K E H' v' d' → Fx (M + 1) (k + 2) (2 * W + 330) d' → Q v' H') : spBe K 36 [.ref st, v] H Q X :=
  ⟨st, c, r, t, v, d, M, k, W, E, rfl, h1, h2, h3, h4, h5, h5', h6, Nat.add_le_add_right h7 3, es, er, oc, fun H' v' d' t' a b c' d'' e => h8 H' v' d' t' a b c' d'' e⟩
def spLaw (K : PySem.W.Frag) : Sp := fun vs H Q _ => ∃ (a : Addr) (ns : List Int), vs = [.ref a] ∧ SqL K H a (ns.map V.int) ∧ ns.length ≤ 63 ∧ ∀ H', Q (.bl true) H'
/-- how large the values are after m bends -/
def wM (m : Nat) : Nat := 2 ^ m * 730 - 330
theorem wM_step (m : Nat) : 2 * wM m + 330 ≤ wM (m + 1) := by
  unfold wM
  have h : 1 ≤ 2 ^ m := Nat.one_le_two_pow
  have e : 2 ^ (m + 1) = 2 * 2 ^ m := by rw [Nat.pow_succ]; omega
  rw [e]
  omega
theorem wM_mono {m n : Nat} (h : m ≤ n) : wM m ≤ wM n := by
  unfold wM
  have := Nat.pow_le_pow_right (show 1 ≤ 2 by decide) h
  omega
set_option maxHeartbeats 16000000 in
theorem ok_La {f fSt fSl fAs fMC fDr fSC fOd fOn fBe fDu fMH fSm : Addr} {fd fdSt fdSl fdAs fdMC fdDr fdSC fdOd fdOn fdBe fdDu fdMH fdSm : FuncData} (F : Fun K "law" "law" sLa f fd)
    (FSt : Fun K "_law_stream" "_law_stream" sStart fSt fdSt) (bSt : Binds K fdSt ["_law_script"] []) (gSt : mg "_law_stream" = some (.ref fSt)) (GSt : FnOk P w K mg base CX0 1 fSt fdSt ["_law_script"] (spStart K))
    (FSl : Fun K "_law_small" "_law_small" sSl fSl fdSl) (bSl : Binds K fdSl ["_law_stream_here"] []) (gSl : mg "_law_small" = some (.ref fSl)) (GSl : FnOk P w K mg base CX0 4 fSl fdSl ["_law_stream_here"] (spSl K))
    (FAs : Fun K "_law_assignment" "_law_assignment" sAs fAs fdAs) (bAs : Binds K fdAs ["_law_stream_here", "_law_instance"] []) (gAs : mg "_law_assignment" = some (.ref fAs)) (GAs : FnOk P w K mg base CX0 2 fAs fdAs ["_law_stream_here", "_law_instance"] (spAs K))
    (FMC : Fun K "margin_certificate" "margin_certificate" sMC fMC fdMC) (bMC : Binds K fdMC ["instance", "assignment"] []) (gMC : mg "margin_certificate" = some (.ref fMC)) (GMC : FnOk P w K mg base CX0 5 fMC fdMC ["instance", "assignment"] (spMC K))
    (FDr : Fun K "_law_draw" "_law_draw" sDraw fDr fdDr) (bDr : Binds K fdDr ["_law_stream_here", "_law_bound"] []) (gDr : mg "_law_draw" = some (.ref fDr)) (GDr : FnOk P w K mg base CX0 1 fDr fdDr ["_law_stream_here", "_law_bound"] spDraw)
    (FSC : Fun K "stay_change" "stay_change" sSC fSC fdSC) (bSC : Binds K fdSC ["assignment"] []) (gSC : mg "stay_change" = some (.ref fSC)) (GSC : FnOk P w K mg base CX0 2 fSC fdSC ["assignment"] (spStC K))
    (FOd : Fun K "_law_odd" "_law_odd" sOd fOd fdOd) (bOd : Binds K fdOd ["_law_stream_here"] []) (gOd : mg "_law_odd" = some (.ref fOd)) (GOd : FnOk P w K mg base CX0 3 fOd fdOd ["_law_stream_here"] (spOd K))
    (FOn : Fun K "_law_one" "_law_one" sOne fOn fdOn) (bOn : Binds K fdOn ["_law_stream_here", "_law_items"] []) (gOn : mg "_law_one" = some (.ref fOn)) (GOn : FnOk P w K mg base CX0 2 fOn fdOn ["_law_stream_here", "_law_items"] (spOne K))
    (FBe : Fun K "_law_bent" "_law_bent" sBe fBe fdBe) (bBe : Binds K fdBe ["_law_stream_here", "_law_value"] []) (gBe : mg "_law_bent" = some (.ref fBe)) (GBe : FnOk P w K mg base CX0 36 fBe fdBe ["_law_stream_here", "_law_value"] (spBe K 36))
    (FDu : Fun K "_law_due" "_law_due" sDu fDu fdDu) (bDu : Binds K fdDu ["_law_instance", "_law_assignment_here", "_law_value"] []) (gDu : mg "_law_due" = some (.ref fDu)) (GDu : FnOk P w K mg base CX0 3 fDu fdDu ["_law_instance", "_law_assignment_here", "_law_value"] (spDu K))
    (FMH : Fun K "margin_holds" "margin_holds" sMH fMH fdMH) (bMH : Binds K fdMH ["instance", "assignment", "value"] []) (gMH : mg "margin_holds" = some (.ref fMH)) (GMH : FnOk P w K mg base CX0 6 fMH fdMH ["instance", "assignment", "value"] (spMH K))
    (FSm : Fun K "_law_same" "_law_same" sSame fSm fdSm) (bSm : Binds K fdSm ["_law_found", "_law_due_here"] []) (gSm : mg "_law_same" = some (.ref fSm)) (GSm : FnOk P w K mg base CX0 5 fSm fdSm ["_law_found", "_law_due_here"] (spS K 5))
    (m_range : mg "range" = none) (m_tuple : mg "tuple" = none) (m_list : mg "list" = none) (m_repr : mg "repr" = none) :
    FnG P w K mg base 37 f fd ["_law_script"] (spLaw K) := by
  refine okG F scLa (fun vs H Q E h => ?_) (fun cdv A outer s H vs Q E hgd hr h => ?_)
  · obtain ⟨a, ns, rfl, _⟩ := h; rfl
  · obtain ⟨a, ns, rfl, hS, hn, q⟩ := h
    refine ⟨_, pss_cons (ps_set (i := 1) scLa.nd rfl (.inr rfl) (pe_call GSt (hr.mono (by omega)) (by rfl) gSt FSt.kp bSt .nil pass0 (pa_cons (pv 0) pa_nil)))
      (pss_cons (ps_for PassesOwn.never rfl (pi_range1 (by rfl) m_range (pa_cons (pe_int) pa_nil)) (pg_name (i := 2) scLa.nd rfl (.inl rfl))
        (pss_cons (ps_set (i := 3) scLa.nd rfl (.inl rfl) (pe_call GSl (hr.mono (by omega)) (by rfl) gSl FSl.kp bSl .nil pass0 (pa_cons (pv 1) pa_nil)))
        (pss_cons (ps_par (i := 4) (j := 5) rfl scLa.nd rfl rfl (by decide) rfl rfl (pa_cons (pe_call GAs (hr.mono (by omega)) (by rfl) gAs FAs.kp bAs .nil pass0 (pa_cons (pv 1) (pa_cons (pv 3) pa_nil))) (pa_cons (pe_call GAs (hr.mono (by omega)) (by rfl) gAs FAs.kp bAs .nil pass0 (pa_cons (pv 1) (pa_cons (pv 3) pa_nil))) pa_nil)) rfl)
        (pss_cons (ps_par (i := 6) (j := 7) rfl scLa.nd rfl rfl (by decide) rfl rfl (pa_cons (pe_call GMC (hr.mono (by omega)) (by rfl) gMC FMC.kp bMC .nil pass0 (pa_cons (pv 3) (pa_cons (pv 4) pa_nil))) (pa_cons (pe_call GMC (hr.mono (by omega)) (by rfl) gMC FMC.kp bMC .nil pass0 (pa_cons (pv 3) (pa_cons (pv 5) pa_nil))) pa_nil)) rfl)
        (pss_cons (ps_set (i := 8) scLa.nd rfl (.inl rfl) (pe_callTy call_tupQ (by rfl) m_tuple (by decide +kernel) (pa_cons (pe_lc (own := [("_law_post", 15)]) (g := gName 15) (tt := tYes) (te := tCall spDraw [] E0 (tCons (tVar 1) (tCons (tC (.int 3)) tNil))) rfl scLa.nd (pi_tup (pe_ix ix_tup (pv 3) (pe_int) (fun _ _ => rfl))) (blkOk_by (N := ["_law_script", "_law_stream_here", "_law_turn", "_law_instance", "_law_assignment_here", "_law_other", "_law_own", "_law_strange", "_law_prices", "_law_stay", "_law_values", "_law_k", "_law_value", "_law_kept", "_law_due_here", "_law_post"]) (sc := defScope sLa) (by decide +kernel)) (fun _ _ _ _ _ => pg_name (i := 15) scLa.nd rfl (.inl rfl)) (fun _ _ _ _ _ => pts_nil) (fun _ _ _ _ _ => pe_call GDr (hr.mono (by omega)) (by rfl) gDr FDr.kp bDr .nil pass0 (pa_cons (pv 1) (pa_cons (pe_int) pa_nil)))) pa_nil)))
        (pss_cons (ps_set (i := 9) scLa.nd rfl (.inl rfl) (pe_call GSC (hr.mono (by omega)) (by rfl) gSC FSC.kp bSC .nil pass0 (pa_cons (pv 4) pa_nil)))
        (pss_cons (ps_set (i := 10) scLa.nd rfl (.inl rfl) (pe_lst (pa_cons (pv 6) (pa_cons (pv 7) (pa_cons (pe_tup (pa_cons (pe_ix ix_tup (pv 6) (pe_int) (fun _ _ => rfl)) (pa_cons (pe_ix ix_tup (pv 6) (pe_int) (fun _ _ => rfl)) (pa_cons (pe_ix ix_tup (pv 7) (pe_int) (fun _ _ => rfl)) pa_nil)))) (pa_cons (pe_tup (pa_cons (pe_ix ix_tup (pv 6) (pe_int) (fun _ _ => rfl)) (pa_cons (pe_ix ix_tup (pv 6) (pe_int) (fun _ _ => rfl)) (pa_cons (pv 8) pa_nil)))) (pa_cons (pe_tup (pa_cons (pe_int) (pa_cons (pv 9) (pa_cons (pe_ix ix_tup (pv 6) (pe_int) (fun _ _ => rfl)) pa_nil)))) pa_nil)))))))
        (pss_cons (ps_set (i := 10) scLa.nd rfl (.inl rfl) (pe_op op_cat (pv 10) (pe_lst (pa_cons (pe_tup (pa_cons (pe_ix ix_tup (pv 6) (pe_int) (fun _ _ => rfl)) (pa_cons (pv 9) (pa_cons (pe_ix ix_tup (pv 6) (pe_int) (fun _ _ => rfl)) pa_nil)))) (pa_cons (pe_slice sl_tupA (pv 6) po_none (po_some (pe_int))) (pa_cons (pe_op op_catA (pv 6) (pe_tup (pa_cons (pe_int) pa_nil))) (pa_cons (pe_callTy call_listS (by rfl) m_list (by decide +kernel) (pa_cons (pv 6) pa_nil)) (pa_cons (pe_tup (pa_cons (pe_int) (pa_cons (pv 9) (pa_cons (pv 8) pa_nil)))) (pa_cons (pe_call GOd (hr.mono (by omega)) (by rfl) gOd FOd.kp bOd .nil pass0 (pa_cons (pv 1) pa_nil)) pa_nil)))))))))
        (pss_cons (ps_for PassesOwn.never rfl (pi_range1 (by rfl) m_range (pa_cons (pe_int) pa_nil)) (pg_name (i := 11) scLa.nd rfl (.inl rfl))
          (pss_one (ps_expr (pe_bm PySem.F.plainAttrs_list PySem.F.slot_list_append PySem.F.type_list_append mt_append (pv 10) (pa_cons (pe_call GBe (hr.mono (by omega)) (by rfl) gBe FBe.kp bBe .nil pass0 (pa_cons (pv 1) (pa_cons (pe_call GOn (hr.mono (by omega)) (by rfl) gOn FOn.kp bOn .nil pass0 (pa_cons (pv 1) (pa_cons (pv 10) pa_nil))) pa_nil))) pa_nil)))))
        (pss_one (ps_for PassesOwn.never rfl (pi_list (pv 10)) (pg_name (i := 12) scLa.nd rfl (.inl rfl))
          (pss_cons (ps_set (i := 13) scLa.nd rfl (.inl rfl) (pe_callB (call_reprR hgd (hu70 hr)) (by rfl) m_repr (by decide +kernel) (pa_cons (pv 12) pa_nil)))
          (pss_cons (ps_set (i := 14) scLa.nd rfl (.inl rfl) (pe_call GDu (hr.mono (by omega)) (by rfl) gDu FDu.kp bDu .nil pass0 (pa_cons (pv 3) (pa_cons (pv 4) (pa_cons (pv 12) pa_nil)))))
          (pss_one (ps_if (PW.pt (pw_or (pt_not (pt_val (pe_call GSm (hr.mono (by omega)) (by rfl) gSm FSm.kp bSm .nil pass0 (pa_cons (pe_call GMH (hr.mono (by omega)) (by rfl) gMH FMH.kp bMH .nil pass0 (pa_cons (pv 3) (pa_cons (pv 4) (pa_cons (pv 12) pa_nil)))) (pa_cons (pv 14) pa_nil))))) (pw_or1 (pt_cmpR op_ne (pe_callB (call_reprR hgd (hu70 hr)) (by rfl) m_repr (by decide +kernel) (pa_cons (pv 12) pa_nil)) (pv 13) (nomark _)))))
            (pss_one (ps_ret (pe_bl))) pss_nil)))))))))))))))
      (pss_one (ps_ret (pe_bl)))), ?_⟩
    refine ⟨.ref a, rfl, a, ns, rfl, hS, hn, fun H1 st c r s1 D1 => ?_⟩
    refine ⟨5, rfl, by decide, by decide, for_it (walk_range (lo := 0) (n := (5 : Int).toNat))
      (fun i σ H2 => ∃ (y2 y3 y4 y5 y6 y7 y8 y9 y10 y11 y12 y13 y14 : Option V) (t2 : Nat), σ = [some (.ref a), some (.ref st), y2, y3, y4, y5, y6, y7, y8, y9, y10, y11, y12, y13, y14, none] ∧ DS H2 st c r t2 ∧ t2 ≤ 6000 * i)
      ⟨none, none, none, none, none, none, none, none, none, none, none, none, none, 0, rfl, D1, by omega⟩ (fun _ _ _ _ _ => trivial) ?_ (fun σ H2 _ => q _)⟩
    rintro i v σ H2z H2 hlt ⟨y2, y3, y4, y5, y6, y7, y8, y9, y10, y11, y12, y13, y14, t2, rfl, d2, ht2⟩ ⟨rfl, rfl⟩
    have hi5 : i < 5 := hlt
    refine ⟨.ref st, rfl, st, c, r, t2, rfl, d2, by omega, fun H3 I t3 cs gs D3 ht3 X3 hI ok nd sm => ?_⟩
    obtain ⟨sm1, sm2, sm3, sm4⟩ := sm
    refine ⟨.ref st, rfl, .ref I, rfl, st, c, r, I, t3, cs, gs, rfl, D3, by omega, hI, ok, fun H4 B t4 rows D4 ht4 X4 hB sh bd smr fit1 => ?_⟩
    have hI4 := (X4.tup D3).dp _ _ (to_dInst _ _) hI
    refine ⟨.ref st, rfl, .ref I, rfl, st, c, r, I, t4, cs, gs, rfl, D4, by omega, hI4, ok, fun H5 B2 t5 rows2 D5 ht5 X5 hB2 sh2 bd2 smr2 fit2 => ?_⟩
    have hI5 := (X5.tup D4).dp _ _ (to_dInst _ _) hI4
    have hB5 := (X5.tup D4).dp _ _ (to_dAsg _) hB
    have mk : ∀ {rs : List (List Int)}, Shp gs rs → Bd rs → (∀ (k : Nat) (g : Gp) (row : List Int), gs[k]? = some g → rs[k]? = some row → row.sum = g.2) → MIn cs gs rs := fun {rs} sh bd smr =>
      ⟨fun c hc => (ok.cb c hc).1, fun g hg => ⟨(ok.gp g hg).2.1, nd g hg, by have := (ok.gp g hg).2.2.1; omega⟩, sh.1, fun i g row h1 h2 => ⟨sh.2 i g row h1 h2, smr i g row h1 h2, fun x hx => (bd row (List.mem_of_getElem? h2) x hx).1⟩⟩
    have hM := mk sh bd smr
    have hM2 := mk sh2 bd2 smr2
    have hZ : MSz cs gs := ⟨ok.c6, ok.g10, fun g hg => (ok.gp g hg).1⟩
    have R1s := smr_of hM sm1 sm3 sm4
    have R2s := smr_of hM2 sm1 sm3 sm4
    refine ⟨_, _, rfl, ?_⟩
    dsimp only
    refine ⟨.ref I, rfl, .ref B, rfl, I, B, cs, gs, rows, rfl, hI5, hB5, hM, hZ, fun H6 p1 u1 s6 Ru1 _ hC1 => ?_⟩
    have hI6 := (TupK.of s6).dp _ _ (to_dInst _ _) hI5
    have hB26 := (TupK.of s6).dp _ _ (to_dAsg _) hB2
    refine ⟨.ref I, rfl, .ref B2, rfl, I, B2, cs, gs, rows2, rfl, hI6, hB26, hM2, hZ, fun H7 p2 u2 s7 Ru2 _ hC2 => ?_⟩
    have s57 := s6.trans s7
    have D7 := D5.same s57
    have hI7 := (TupK.of s7).dp _ _ (to_dInst _ _) hI6
    have hB7 := (TupK.of s57).dp _ _ (to_dAsg _) hB5
    have hC1' := (TupK.of s7).dp _ _ (to_dCert _ _) hC1
    have T1 := smt_cert (cert_tb hM Ru1) hM R1s
    have T2 := smt_cert (cert_tb hM2 Ru2) hM2 R2s
    have TS := smt_stay R1s
    have V1 := votes_small T1
    have V2 := votes_small T2
    obtain ⟨q1l, q1b, _⟩ := cert_pr hM Ru1
    obtain ⟨q2l, q2b, _⟩ := cert_pr hM2 Ru2
    have Q1 : SmQ (certPr u1) := ⟨by omega, q1b⟩
    have Q2 : SmQ (certPr u2) := ⟨by omega, q2b⟩
    obtain ⟨_, ca, ga, xs, e, hi, hc, hg, hgs⟩ := inst_open hI7
    cases e
    -- drawn prices
    refine ⟨_, _, rfl, ?_⟩
    dsimp only
    refine ⟨.ref I, rfl, I, _, 0, .ref ca, rfl, rfl, hi, atI_nat (j := 0) rfl, ca, rfl, ⟨_, hc⟩, fun D nD => ?_⟩
    have oD := D7.off nD
    refine lc_it (walk_tup (K := K) (a := ca) (xs := cs.map V.int))
      (fun k H8 => ∃ ls : List Int, DS H8 st c r (t5 + k) ∧ TupK H7 H8 ∧ H8 D = some (.lst (ls.map V.int)) ∧ ls.length = k ∧ ∀ x ∈ ls, 0 ≤ x ∧ x ≤ 2)
      ⟨[], D7.new nD, TupK.new nD, upd_same, rfl, fun x h => by simp at h⟩ (fun k H8 _ h => by obtain ⟨_, _, tk, _⟩ := h; exact tk.sq hc) ?_ ?_
    · rintro k y H8 H9 hk ⟨ls, d8, tk8, e8, l8, b8⟩ ⟨rfl, hy⟩
      rw [List.length_map] at hk
      refine ⟨rfl, .ref st, rfl, st, c, r, t5 + k, 3, rfl, d8, by omega, by decide, by decide, fun H10 dd h0 h1 D10 X10 => ?_⟩
      have e10 := X10 _ _ e8 oD.1 oD.2.2
      refine ⟨_, e10, by rw [List.length_map]; exact small (by omega), ls ++ [dd], D10.put oD.1 oD.2.1 oD.2.2, (tk8.trans (X10.tup d8)).trans (TupK.put e10), ?_, by simp [l8], ?_⟩
      · rw [upd_same, List.map_append]; rfl
      · intro y hy
        rw [List.mem_append] at hy
        rcases hy with h | h
        · exact b8 y h
        · simp only [List.mem_singleton] at h; omega
    rintro H8 ⟨dq, D8, tk78, e8, l8, b8⟩
    rw [List.length_map] at D8 l8
    have Q3 : SmQ dq := ⟨by omega, b8⟩
    refine ⟨D, _, rfl, .inl ⟨SqL.of e8, fun PQ n_PQ => ?_⟩⟩
    have s_PQ := sameNew (o := .tup (dq.map V.int)) n_PQ
    have e_PQ : (upd H8 PQ (.tup (dq.map V.int))) PQ = some (.tup (dq.map V.int)) := upd_same
    generalize upd H8 PQ (.tup (dq.map V.int)) = H9 at s_PQ e_PQ ⊢
    have D9 := D8.same s_PQ
    have tk79 := tk78.trans (TupK.of s_PQ)
    have hB9 := tk79.dp _ _ (to_dAsg _) hB7
    have hrl := hM.rl
    have hg10 := ok.g10
    refine ⟨.ref B, rfl, B, rows, rfl, hB9, by omega, fun row hr => by have := (R1s.r row hr).1; omega, fun H10 S s10 hS10 => ?_⟩
    have D10 := D9.same s10
    have tk710 := tk79.trans (TupK.of s10)
    have hI10 := tk710.dp _ _ (to_dInst _ _) hI7
    have hB10 := tk710.dp _ _ (to_dAsg _) hB7
    obtain ⟨ch1, qa1, hp1, hch1, hqa1⟩ := cert_open (tk710.dp _ _ (to_dCert _ _) hC1')
    obtain ⟨ch2, qa2, hp2, hch2, hqa2⟩ := cert_open (tk710.dp _ _ (to_dCert _ _) hC2)
    have hPQ : Dp K H10 (.ref PQ) (dI dq) := dI_sq (sqS s10 (SqT.of e_PQ))
    have D10' := D10
    clear hI hI4 hI5 hI6 hI7 hB hB5 hB26 hB7 hB9 hC1 hC1' hC2 hi hc hg hgs
    -- five values
    generalize (votesOf (certTabs rows u1)).sum = n1 at hp1 V1
    generalize (votesOf (certTabs rows2 u2)).sum = n2 at hp2 V2
    generalize certTabs rows u1 = tb1 at hch1 T1
    generalize certTabs rows2 u2 = tb2 at hch2 T2
    generalize certPr u1 = q1 at hqa1 Q1
    generalize certPr u2 = q2 at hqa2 Q2
    dsimp only [gName]
    refine (id ?_ : tSeq (tAsg _ _) _ _ _ _)
    refine ⟨.ref p1, rfl, .ref p2, rfl, .ref p1, rfl, p1, _, 0, .int n1, rfl, rfl, hp1, atI_nat (j := 0) rfl, .ref p1, rfl, p1, _, 1, .ref ch1, rfl, rfl, hp1, atI_nat (j := 1) rfl, .ref p2, rfl, p2, _, 2, .ref qa2, rfl, rfl, hp2, atI_nat (j := 2) rfl, (show (3 : Nat) ≤ sizeLine by decide), fun A3 n_A3 => ?_⟩
    have s_A3 := sameNew (o := .tup [.int n1, .ref ch1, .ref qa2]) n_A3
    have e_A3 : (upd H10 A3 (.tup [.int n1, .ref ch1, .ref qa2])) A3 = some (.tup [.int n1, .ref ch1, .ref qa2]) := upd_same
    generalize upd H10 A3 (.tup [.int n1, .ref ch1, .ref qa2]) = H11 at s_A3 e_A3 ⊢
    have hp1_11 := sqS s_A3 hp1
    refine ⟨.ref p1, rfl, p1, _, 0, .int n1, rfl, rfl, hp1_11, atI_nat (j := 0) rfl, .ref p1, rfl, p1, _, 1, .ref ch1, rfl, rfl, hp1_11, atI_nat (j := 1) rfl, .ref PQ, rfl, (show (3 : Nat) ≤ sizeLine by decide), fun A4 n_A4 => ?_⟩
    have s_A4 := sameNew (o := .tup [.int n1, .ref ch1, .ref PQ]) n_A4
    have e_A4 : (upd H11 A4 (.tup [.int n1, .ref ch1, .ref PQ])) A4 = some (.tup [.int n1, .ref ch1, .ref PQ]) := upd_same
    generalize upd H11 A4 (.tup [.int n1, .ref ch1, .ref PQ]) = H12 at s_A4 e_A4 ⊢
    have hp1_12 := sqS s_A4 hp1_11
    refine ⟨.ref S, rfl, .ref p1, rfl, p1, _, 2, .ref qa1, rfl, rfl, hp1_12, atI_nat (j := 2) rfl, (show (3 : Nat) ≤ sizeLine by decide), fun A5 n_A5 => ?_⟩
    have s_A5 := sameNew (o := .tup [.int 0, .ref S, .ref qa1]) n_A5
    have e_A5 : (upd H12 A5 (.tup [.int 0, .ref S, .ref qa1])) A5 = some (.tup [.int 0, .ref S, .ref qa1]) := upd_same
    generalize upd H12 A5 (.tup [.int 0, .ref S, .ref qa1]) = H13 at s_A5 e_A5 ⊢
    have s1013 := s_A3.trans (s_A4.trans s_A5)
    refine ⟨(show (5 : Nat) ≤ sizeLine by decide), fun L1 n_L1 => ?_⟩
    have oL1 := (D10.same s1013).off n_L1
    have s_L1 := sameNew (o := .lst [.ref p1, .ref p2, .ref A3, .ref A4, .ref A5]) n_L1
    have e_L1 : (upd H13 L1 (.lst [.ref p1, .ref p2, .ref A3, .ref A4, .ref A5])) L1 = some (.lst [.ref p1, .ref p2, .ref A3, .ref A4, .ref A5]) := upd_same
    generalize upd H13 L1 (.lst [.ref p1, .ref p2, .ref A3, .ref A4, .ref A5]) = H14 at s_L1 e_L1 ⊢
    have s1014 := s1013.trans s_L1
    have hp1_14 := sqS s1014 hp1
    -- six more
    refine ⟨.ref L1, rfl, .ref p1, rfl, p1, _, 0, .int n1, rfl, rfl, hp1_14, atI_nat (j := 0) rfl, .ref S, rfl, .ref p1, rfl, p1, _, 2, .ref qa1, rfl, rfl, hp1_14, atI_nat (j := 2) rfl, (show (3 : Nat) ≤ sizeLine by decide), fun A6 n_A6 => ?_⟩
    have s_A6 := sameNew (o := .tup [.int n1, .ref S, .ref qa1]) n_A6
    have e_A6 : (upd H14 A6 (.tup [.int n1, .ref S, .ref qa1])) A6 = some (.tup [.int n1, .ref S, .ref qa1]) := upd_same
    generalize upd H14 A6 (.tup [.int n1, .ref S, .ref qa1]) = H15 at s_A6 e_A6 ⊢
    refine ⟨.ref p1, rfl, 2, rfl, ?_⟩
    dsimp only [tNoPart]
    refine slAny (K := K) (lo := none) (hi := some ((2 : Nat) : Int)) (sqS s_A6 hp1_14) (fun H16 b7 s16 hb7 => ?_)
    rw [cut_to] at hb7
    refine ⟨.ref p1, rfl, (show (1 : Nat) ≤ sizeLine by decide), fun z8 n_z8 => ?_⟩
    have s_z8 := sameNew (o := .tup [.int 0]) n_z8
    have e_z8 : (upd H16 z8 (.tup [.int 0])) z8 = some (.tup [.int 0]) := upd_same
    generalize upd H16 z8 (.tup [.int 0]) = H17 at s_z8 e_z8 ⊢
    have s1417 := s_A6.trans (s16.trans s_z8)
    refine cat_eq (sqS s1417 hp1_14) (SqT.of e_z8) (show (4 : Nat) ≤ sizeLine by decide) (fun H18 b8 s18 hb8 => ?_)
    have s1418 := s1417.trans s18
    refine ⟨.ref p1, rfl, p1, _, rfl, sqS s1418 hp1_14, fun L8 n_L8 m_L8 => ?_⟩
    have D18 := D10.same (s1014.trans s1418)
    have oL8 := D18.off n_L8
    have s_L8 := sameNew (o := .lst [.int n1, .ref ch1, .ref qa1]) n_L8
    have e_L8 : (upd H18 L8 (.lst [.int n1, .ref ch1, .ref qa1])) L8 = some (.lst [.int n1, .ref ch1, .ref qa1]) := upd_same
    generalize upd H18 L8 (.lst [.int n1, .ref ch1, .ref qa1]) = H19 at s_L8 e_L8 ⊢
    refine ⟨.ref S, rfl, .ref PQ, rfl, (show (3 : Nat) ≤ sizeLine by decide), fun A9 n_A9 => ?_⟩
    have s_A9 := sameNew (o := .tup [.int 0, .ref S, .ref PQ]) n_A9
    have e_A9 : (upd H19 A9 (.tup [.int 0, .ref S, .ref PQ])) A9 = some (.tup [.int 0, .ref S, .ref PQ]) := upd_same
    generalize upd H19 A9 (.tup [.int 0, .ref S, .ref PQ]) = H20 at s_A9 e_A9 ⊢
    have s1820 := s_L8.trans s_A9
    have D20 := D18.same s1820
    refine ⟨.ref st, rfl, st, c, r, _, (fun x => x = st ∨ x = r), rfl, D20, by omega, .inl rfl, .inr rfl, fun x hx => by
      rcases hx with rfl | rfl
      · exact (dsOcc D20).1
      · exact (dsOcc D20).2, fun H21 vo do' D21 X21 ho fo => ?_⟩
    have k2021 : TupK H20 H21 := X21.tup D20
    have l2021 : LastE (fun x => x = st ∨ x = r) H20 H21 := LastE.ext (.inl rfl) (.inr rfl) D20 X21
    refine ⟨(show (6 : Nat) ≤ sizeLine by decide), fun M1 n_M1 => ?_⟩
    have s_M1 := sameNew (o := .lst [.ref A6, .ref b7, .ref b8, .ref L8, .ref A9, vo]) n_M1
    have e_M1 : (upd H21 M1 (.lst [.ref A6, .ref b7, .ref b8, .ref L8, .ref A9, vo])) M1 = some (.lst [.ref A6, .ref b7, .ref b8, .ref L8, .ref A9, vo]) := upd_same
    generalize upd H21 M1 (.lst [.ref A6, .ref b7, .ref b8, .ref L8, .ref A9, vo]) = H22 at s_M1 e_M1 ⊢
    have s1420 := s1418.trans s1820
    have eL1_22 := s_M1 _ _ (X21 _ _ (s1420 _ _ e_L1) oL1.1 oL1.2.2)
    refine ⟨L1, M1, _, _, rfl, rfl, eL1_22, e_M1, (show (11 : Nat) ≤ sizeLine by decide), fun N n_N => ?_⟩
    have D22 := D21.same s_M1
    have oN := D22.off n_N
    have l2022 : LastE (fun x => x = st ∨ x = r) H20 H22 := l2021.trans (.of s_M1)
    have s1020 := s1014.trans s1420
    have l1022 : LastE (fun x => x = st ∨ x = r) H10 H22 := (LastE.of s1020).trans l2022
    have dS := (Dz.of_dp (E := fun x => x = st ∨ x = r) (to_dTabs _) hS10).lasts l1022
    have dch1 := (Dz.of_dp (E := fun x => x = st ∨ x = r) (to_dTabs _) hch1).lasts l1022
    have dch2 := (Dz.of_dp (E := fun x => x = st ∨ x = r) (to_dTabs _) hch2).lasts l1022
    have dqa1 := (Dz.of_dp (E := fun x => x = st ∨ x = r) (to_dI _) hqa1).lasts l1022
    have dqa2 := (Dz.of_dp (E := fun x => x = st ∨ x = r) (to_dI _) hqa2).lasts l1022
    have dPQ := (Dz.of_dp (E := fun x => x = st ∨ x = r) (to_dI _) hPQ).lasts l1022
    have k1022 := l1022.tk
    have k2022 := l2022.tk
    have hall0 : DzAll K (fun x => x = st ∨ x = r) H22 ([.ref p1, .ref p2, .ref A3, .ref A4, .ref A5] ++ [.ref A6, .ref b7, .ref b8, .ref L8, .ref A9, vo]) ([.tuple [.int n1, dTabs tb1, dI q1], .tuple [.int n2, dTabs tb2, dI q2], .tuple [.int n1, dTabs tb1, dI q2], .tuple [.int n1, dTabs tb1, dI dq], .tuple [.int 0, dTabs (rows.map stayTab), dI q1]] ++ [.tuple [.int n1, dTabs (rows.map stayTab), dI q1], .tuple [.int n1, dTabs tb1], .tuple [.int n1, dTabs tb1, dI q1, .int 0], .list [.int n1, dTabs tb1, dI q1], .tuple [.int 0, dTabs (rows.map stayTab), dI dq], do']) := by
      refine DzAll.app (.cons (.tup (k1022.sq hp1) (.cons (.int _) (.cons dch1 (.cons dqa1 .nil)))) (.cons (.tup (k1022.sq hp2) (.cons (.int _) (.cons dch2 (.cons dqa2 .nil)))) (.cons (.tup (k2022.sq (sqS ((s_A4.trans (s_A5.trans s_L1)).trans s1420) (SqT.of e_A3))) (.cons (.int _) (.cons dch1 (.cons dqa2 .nil)))) (.cons (.tup (k2022.sq (sqS ((s_A5.trans s_L1).trans s1420) (SqT.of e_A4))) (.cons (.int _) (.cons dch1 (.cons dPQ .nil)))) (.cons (.tup (k2022.sq (sqS (s_L1.trans s1420) (SqT.of e_A5))) (.cons (.int _) (.cons dS (.cons dqa1 .nil)))) .nil)))))
        (.cons (.tup (k2022.sq (sqS ((s16.trans (s_z8.trans s18)).trans s1820) (SqT.of e_A6))) (.cons (.int _) (.cons dS (.cons dqa1 .nil)))) (.cons (.tup (k2022.sq (sqS ((s_z8.trans s18).trans s1820) hb7)) (.cons (.int _) (.cons dch1 .nil))) (.cons (.tup (k2022.sq (sqS s1820 hb8)) (.cons (.int _) (.cons dch1 (.cons dqa1 (.cons (.int _) .nil))))) (.cons (.lst (l2022.ls _ _ (s_A9 _ _ e_L8) (fun z => by rcases z with z | z; exact oL8.1 z; exact oL8.2.2 z)) (fun z => by rcases z with z | z; exact oL8.1 z; exact oL8.2.2 z) m_L8 (.cons (.int _) (.cons dch1 (.cons dqa1 .nil)))) (.cons (.tup (k2022.sq (SqT.of e_A9)) (.cons (.int _) (.cons dS (.cons dPQ .nil)))) (.cons (ho.lasts (.of s_M1)) .nil))))))
    have hst : ∀ d ∈ ([.tuple [.int n1, dTabs tb1, dI q1], .tuple [.int n2, dTabs tb2, dI q2], .tuple [.int n1, dTabs tb1, dI q2], .tuple [.int n1, dTabs tb1, dI dq], .tuple [.int 0, dTabs (rows.map stayTab), dI q1]] ++ [.tuple [.int n1, dTabs (rows.map stayTab), dI q1], .tuple [.int n1, dTabs tb1], .tuple [.int n1, dTabs tb1, dI q1, .int 0], .list [.int n1, dTabs tb1, dI q1], .tuple [.int 0, dTabs (rows.map stayTab), dI dq], do'] : List PyData), St d := by
      intro d hd
      simp only [List.cons_append, List.nil_append, List.mem_cons, List.not_mem_nil, or_false] at hd
      rcases hd with rfl | rfl | rfl | rfl | rfl | rfl | rfl | rfl | rfl | rfl | rfl
      · exact tri_fx V1 T1 Q1
      · exact tri_fx V2 T2 Q2
      · exact tri_fx V1 T1 Q2
      · exact tri_fx V1 T1 Q3
      · exact tri_fx (by decide) TS Q1
      · exact tri_fx V1 TS Q1
      · exact two_fx V1 T1
      · exact four_fx V1 T1 Q1
      · exact list_fx V1 T1 Q1
      · exact tri_fx (by decide) TS Q3
      · exact fo.mono (by omega) (by omega) (by omega)
    generalize hvs0 : ([.ref p1, .ref p2, .ref A3, .ref A4, .ref A5] ++ [.ref A6, .ref b7, .ref b8, .ref L8, .ref A9, vo] : List V) = vs0 at hall0 ⊢
    generalize hds0 : ([.tuple [.int n1, dTabs tb1, dI q1], .tuple [.int n2, dTabs tb2, dI q2], .tuple [.int n1, dTabs tb1, dI q2], .tuple [.int n1, dTabs tb1, dI dq], .tuple [.int 0, dTabs (rows.map stayTab), dI q1]] ++ [.tuple [.int n1, dTabs (rows.map stayTab), dI q1], .tuple [.int n1, dTabs tb1], .tuple [.int n1, dTabs tb1, dI q1, .int 0], .list [.int n1, dTabs tb1, dI q1], .tuple [.int 0, dTabs (rows.map stayTab), dI dq], do'] : List PyData) = ds0 at hall0 hst
    have lds0 : ds0.length = 11 := by rw [← hds0]; rfl
    clear hvs0 hds0
    have hall1 := hall0.more n_N
    have s_N := sameNew (o := .lst vs0) n_N
    have e_N : (upd H22 N (.lst vs0)) N = some (.lst vs0) := upd_same
    have hI22 := k1022.dp _ _ (to_dInst _ _) hI10
    have hB22 := k1022.dp _ _ (to_dAsg _) hB10
    generalize upd H22 N (.lst vs0) = H23 at s_N e_N ⊢
    have D23 := D22.same s_N
    have hall2 := hall1.lasts (.of s_N)
    have hI23 := (TupK.of s_N).dp _ _ (to_dInst _ _) hI22
    have hB23 := (TupK.of s_N).dp _ _ (to_dAsg _) hB22
    obtain ⟨EE, hE⟩ : ∃ EE : Addr → Prop, EE = (fun x => (x = st ∨ x = r) ∨ x = N) := ⟨_, rfl⟩
    rw [← hE] at hall2
    have est : EE st := by rw [hE]; exact .inl (.inl rfl)
    have er : EE r := by rw [hE]; exact .inl (.inr rfl)
    have eN : EE N := by rw [hE]; exact .inr rfl
    have ocE : ∀ {Hx : Hp} {tx : Nat} {vx : List V}, DS Hx st c r tx → Hx N = some (.lst vx) → ∀ a, EE a → Hx a ≠ none := fun {Hx tx vx} Dx ex a ha => by
      rw [hE] at ha
      rcases ha with (rfl | rfl) | rfl
      · exact (dsOcc Dx).1
      · exact (dsOcc Dx).2
      · rw [ex]; simp
    refine ⟨14, rfl, by decide, by decide, for_it (walk_range (lo := 0) (n := (14 : Int).toNat))
      (fun k σ H2 => ∃ (y11 y12 y13 y14 : Option V) (vs : List V) (ds : List PyData) (t6 : Nat), σ = [some (.ref a), some (.ref st), some (.int (0 + (i : Nat))), some (.ref I), some (.ref B), some (.ref B2), some (.ref p1), some (.ref p2), some (.ref PQ), some (.ref S), some (.ref N), y11, y12, y13, y14, none] ∧ DS H2 st c r t6 ∧ t6 ≤ t2 + 600 + 361 * k ∧ Dp K H2 (.ref I) (dInst cs gs) ∧ Dp K H2 (.ref B) (dAsg rows) ∧ H2 N = some (.lst vs) ∧ DzAll K EE H2 vs ds ∧ ds.length = 11 + k ∧ ∀ d ∈ ds, Fx (10 ^ 29 + k) (4 + 2 * k) (wM k) d)
      ⟨y11, y12, y13, y14, vs0, ds0, _, rfl, D23, by omega, hI23, hB23, e_N, hall2, by omega, fun d hd => by
        have := hst d hd
        have e : wM 0 = 400 := by decide
        rw [e]
        exact this⟩ (fun _ _ _ _ _ => trivial) ?_ ?_⟩
    · rintro k v σ H24z H24 hk ⟨y11', y12', y13', y14', vs, ds, t6, rfl, D24, ht6, hI24, hB24, e24, hall, lds, fds⟩ ⟨rfl, rfl⟩
      have hk14 : k < 14 := hk
      have lvs := DzAll.len hall
      refine ⟨.ref N, rfl, .inl ⟨rfl, _, SqL.of e24⟩, .ref st, rfl, .ref st, rfl, .ref N, rfl, st, c, r, N, t6, vs, rfl, D24, by omega, e24, oN.1, oN.2.2, by omega, by omega, fun H25 j x hx D25 X25 => ?_⟩
      dsimp only [tNil]
      obtain ⟨dx, hdx, hxd⟩ := DzAll.at hall hx
      have l2425 := LastE.ext est er D24 X25
      have e25 := X25 _ _ e24 oN.1 oN.2.2
      have fx := fds dx (List.mem_of_getElem? hdx)
      have w14 := wM_mono (show k ≤ 13 by omega)
      have w13 : wM 13 ≤ 8000000 := by decide
      refine be36 D25 (by omega) (hxd.lasts l2425) fx (by omega) (by omega) (by omega) (by have := fx.dp; omega) est er (ocE D25 e25) fun H26 v' d' t7 D26 ht7 X26 hv' fv' => ?_
      have l2526 := LastE.ext est er D25 X26
      have e26 := X26 _ _ e25 oN.1 oN.2.2
      have l2426 := l2425.trans l2526
      have l26 : LastE EE H26 (upd H26 N (.lst (vs ++ [v']))) := LastE.put e26 eN
      have l27 := l2426.trans l26
      refine ⟨N, vs, _, rfl, rfl, e26, small (by omega), _, _, _, _, vs ++ [v'], ds ++ [d'], t7, rfl, D26.put oN.1 oN.2.1 oN.2.2, by omega, l27.tk.dp _ _ (to_dInst _ _) hI24, l27.tk.dp _ _ (to_dAsg _) hB24, upd_same, (hall.lasts l27).snoc (hv'.lasts l26), by simp [lds]; omega, fun d hd => ?_⟩
      have ws := wM_step k
      rcases List.mem_append.mp hd with hd | hd
      · exact (fds d hd).mono (by omega) (by omega) (by omega)
      · have : d = d' := by simpa using hd
        subst this
        exact fv'.mono (by omega) (by omega) (by omega)
    · rintro σ H24 ⟨y11', y12', y13', y14', vs, ds, t6, rfl, D24, ht6, hI24, hB24, e24, hall, lds, fds⟩
      have e14 : (14 : Int).toNat = 14 := rfl
      rw [e14] at ht6 lds fds
      have hq := DzAll.dq est er hall
      have w14 : wM 14 ≤ sizeLine := by decide
      refine ⟨.ref N, rfl, N, rfl, ⟨_, SqL.of e24⟩, for_it (walk_list (K := K) (a := N) (xs := vs))
        (fun k σ Hx => ∃ (y12 y13 y14 : Option V), σ = [some (.ref a), some (.ref st), some (.int (0 + (i : Nat))), some (.ref I), some (.ref B), some (.ref B2), some (.ref p1), some (.ref p2), some (.ref PQ), some (.ref S), some (.ref N), y11', y12, y13, y14, none] ∧ Same H24 Hx)
        ⟨_, _, _, rfl, Same.refl _⟩ (fun k σ Hx _ h => by obtain ⟨_, _, _, _, s9⟩ := h; exact SqL.of (s9 _ _ e24)) ?_ ?_⟩
      · rintro k v σ Hx Hx' hk ⟨y12, y13, y14, rfl, sx⟩ ⟨rfl, hv⟩
        have hv : vs[k]? = some v := hv
        obtain ⟨d, hd, hvd⟩ := DqAll.at hq hv
        have fd := fds d (List.mem_of_getElem? hd)
        have hvx := hvd.lasts (.of sx)
        have sh1 := (fit_ok (M := 10 ^ 29 + 14) (by decide) fd.ok).1
        have sh3 : d.shown.length ≤ sizeLine := Nat.le_trans (shown_wx (M := 10 ^ 29 + 14) (by decide) fd.ok) (Nat.le_trans fd.wx w14)
        have sh2 : d.depth ≤ 60 := by have := fd.dp; omega
        refine ⟨v, rfl, v, d, st, r, rfl, hvx, sh1, sh2, sh3, ?_⟩
        have hIx := (TupK.of sx).dp _ _ (to_dInst _ _) hI24
        have hBx := (TupK.of sx).dp _ _ (to_dAsg _) hB24
        refine ⟨.ref I, rfl, .ref B, rfl, v, rfl, st, r, I, B, v, cs, gs, rows, d, rfl, hIx, hBx, hvx, ok, hM, sh, bd, fun H25 s25 => ?_⟩
        have sx5 := sx.trans s25
        refine ⟨.ref I, rfl, .ref B, rfl, v, rfl, st, r, I, B, v, cs, gs, rows, d, rfl, (TupK.of s25).dp _ _ (to_dInst _ _) hIx, (TupK.of s25).dp _ _ (to_dAsg _) hBx, hvx.lasts (.of s25), ok, sh, bd, fun H26 s26 => ?_⟩
        refine ⟨.bl _, rfl, _, _, .bool (marginD cs gs rows d), rfl, .bl _, .bl _, rfl, by simp [PyData.depth], fun H27 s27 => ⟨_, rfl, iteF ?_⟩⟩
        have s57 := s25.trans (s26.trans s27)
        refine ⟨v, rfl, v, d, st, r, rfl, hvx.lasts (.of s57), sh1, sh2, sh3, .str _, rfl, rfl, _, rfl, iteFF (by simp) ?_⟩
        exact ⟨_, _, _, rfl, sx.trans s57⟩
      · rintro σ Hx ⟨y12, y13, y14, rfl, sx⟩
        exact ⟨_, _, _, _, _, _, _, _, _, _, _, _, _, t6, rfl, D24.same sx, by omega⟩
end
end Pv

namespace Pv
open PySem PySem.Spec PyProof.Rows L2
/-! what the top has left -/
set_option maxHeartbeats 8000000 in
theorem all_mk {l : PySem.W.OpenLaw} {w : World} {K : PySem.W.Frag} {h : Heap} {mg : Str → Option Value} {fa fWh fWi fTo fSp fLo fIA fTa fTR fIC fWT fVo fCS fGT fOC fPT fVT fMC fSR fSC fBg fPl fIP fMH fSt fDr fOn fSm fLi fSl fAs fLV fLL fLC fLS fOd fBe fDu fLa : Addr} (X : K.In h) (G : h.Ns mainGlobals mg) (hfa : mg "law" = some (.ref fa))
    {odWh anWh odWi anWi odTo anTo odSp anSp odLo anLo odIA anIA odTa anTa odTR anTR odIC anIC odWT anWT odVo anVo odCS anCS odGT anGT odOC anOC odPT anPT odVT anVT odMC anMC odSR anSR odSC anSC odBg anBg odPl anPl odIP anIP odMH anMH odSt anSt odDr anDr odOn anOn odSm anSm odLi anLi odSl anSl odAs anAs odLV anLV odLL anLL odLC anLC odLS anLS odOd anOd odBe anBe odDu anDu odLa anLa : Option Addr} {slWh slWi slTo slSp slLo slIA slTa slTR slIC slWT slVo slCS slGT slOC slPT slVT slMC slSR slSC slBg slPl slIP slMH slSt slDr slOn slSm slLi slSl slAs slLV slLL slLC slLS slOd slBe slDu slLa : Array (Option Value)}
    {ocWh kVWh dcWh pmWh cdWh ctWh ocWi kVWi dcWi pmWi cdWi ctWi ocTo kVTo dcTo pmTo cdTo ctTo ocSp kVSp dcSp pmSp cdSp ctSp ocLo kVLo dcLo pmLo cdLo ctLo ocIA kVIA dcIA pmIA cdIA ctIA ocTa kVTa dcTa pmTa cdTa ctTa ocTR kVTR dcTR pmTR cdTR ctTR ocIC kVIC dcIC pmIC cdIC ctIC ocWT kVWT dcWT pmWT cdWT ctWT ocVo kVVo dcVo pmVo cdVo ctVo ocCS kVCS dcCS pmCS cdCS ctCS ocGT kVGT dcGT pmGT cdGT ctGT ocOC kVOC dcOC pmOC cdOC ctOC ocPT kVPT dcPT pmPT cdPT ctPT ocVT kVVT dcVT pmVT cdVT ctVT ocMC kVMC dcMC pmMC cdMC ctMC ocSR kVSR dcSR pmSR cdSR ctSR ocSC kVSC dcSC pmSC cdSC ctSC ocBg kVBg dcBg pmBg cdBg ctBg ocPl kVPl dcPl pmPl cdPl ctPl ocIP kVIP dcIP pmIP cdIP ctIP ocMH kVMH dcMH pmMH cdMH ctMH ocSt kVSt dcSt pmSt cdSt ctSt ocDr kVDr dcDr pmDr cdDr ctDr ocOn kVOn dcOn pmOn cdOn ctOn ocSm kVSm dcSm pmSm cdSm ctSm ocLi kVLi dcLi pmLi cdLi ctLi ocSl kVSl dcSl pmSl cdSl ctSl ocAs kVAs dcAs pmAs cdAs ctAs ocLV kVLV dcLV pmLV cdLV ctLV ocLL kVLL dcLL pmLL cdLL ctLL ocLC kVLC dcLC pmLC cdLC ctLC ocLS kVLS dcLS pmLS cdLS ctLS ocOd kVOd dcOd pmOd cdOd ctOd ocBe kVBe dcBe pmBe cdBe ctBe ocDu kVDu dcDu pmDu cdDu ctDu ocLa kVLa dcLa pmLa cdLa ctLa : Value}
    (aWh : PySem.W.nsIn K mainGlobals "is_whole" = some (some (.ref fWh))) (lWh : K.lookup fWh = some ⟨ocWh, odWh, .func (PySem.W.fnOf "is_whole" "is_whole" (defArgs sWhole) (defBody sWhole) (defScope sWhole) .none kVWh dcWh pmWh anWh cdWh ctWh), slWh⟩)
      (cWh : PySem.W.codeIn K cdWh "is_whole" = true) (kWh : PySem.W.keepIn K (.ref fWh) = true)
    (aWi : PySem.W.nsIn K mainGlobals "is_within" = some (some (.ref fWi))) (lWi : K.lookup fWi = some ⟨ocWi, odWi, .func (PySem.W.fnOf "is_within" "is_within" (defArgs sWithin) (defBody sWithin) (defScope sWithin) .none kVWi dcWi pmWi anWi cdWi ctWi), slWi⟩)
      (cWi : PySem.W.codeIn K cdWi "is_within" = true) (kWi : PySem.W.keepIn K (.ref fWi) = true)
    (aTo : PySem.W.nsIn K mainGlobals "is_tuple_of" = some (some (.ref fTo))) (lTo : K.lookup fTo = some ⟨ocTo, odTo, .func (PySem.W.fnOf "is_tuple_of" "is_tuple_of" (defArgs sTupOf) (defBody sTupOf) (defScope sTupOf) .none kVTo dcTo pmTo anTo cdTo ctTo), slTo⟩)
      (cTo : PySem.W.codeIn K cdTo "is_tuple_of" = true) (kTo : PySem.W.keepIn K (.ref fTo) = true)
    (aSp : PySem.W.nsIn K mainGlobals "is_split" = some (some (.ref fSp))) (lSp : K.lookup fSp = some ⟨ocSp, odSp, .func (PySem.W.fnOf "is_split" "is_split" (defArgs sSp) (defBody sSp) (defScope sSp) .none kVSp dcSp pmSp anSp cdSp ctSp), slSp⟩)
      (cSp : PySem.W.codeIn K cdSp "is_split" = true) (kSp : PySem.W.keepIn K (.ref fSp) = true)
    (aLo : PySem.W.nsIn K mainGlobals "post_loads" = some (some (.ref fLo))) (lLo : K.lookup fLo = some ⟨ocLo, odLo, .func (PySem.W.fnOf "post_loads" "post_loads" (defArgs sLoads) (defBody sLoads) (defScope sLoads) .none kVLo dcLo pmLo anLo cdLo ctLo), slLo⟩)
      (cLo : PySem.W.codeIn K cdLo "post_loads" = true) (kLo : PySem.W.keepIn K (.ref fLo) = true)
    (aIA : PySem.W.nsIn K mainGlobals "is_assignment" = some (some (.ref fIA))) (lIA : K.lookup fIA = some ⟨ocIA, odIA, .func (PySem.W.fnOf "is_assignment" "is_assignment" (defArgs sIA) (defBody sIA) (defScope sIA) .none kVIA dcIA pmIA anIA cdIA ctIA), slIA⟩)
      (cIA : PySem.W.codeIn K cdIA "is_assignment" = true) (kIA : PySem.W.keepIn K (.ref fIA) = true)
    (aTa : PySem.W.nsIn K mainGlobals "is_table" = some (some (.ref fTa))) (lTa : K.lookup fTa = some ⟨ocTa, odTa, .func (PySem.W.fnOf "is_table" "is_table" (defArgs sTa) (defBody sTa) (defScope sTa) .none kVTa dcTa pmTa anTa cdTa ctTa), slTa⟩)
      (cTa : PySem.W.codeIn K cdTa "is_table" = true) (kTa : PySem.W.keepIn K (.ref fTa) = true)
    (aTR : PySem.W.nsIn K mainGlobals "tables_result" = some (some (.ref fTR))) (lTR : K.lookup fTR = some ⟨ocTR, odTR, .func (PySem.W.fnOf "tables_result" "tables_result" (defArgs sTR) (defBody sTR) (defScope sTR) .none kVTR dcTR pmTR anTR cdTR ctTR), slTR⟩)
      (cTR : PySem.W.codeIn K cdTR "tables_result" = true) (kTR : PySem.W.keepIn K (.ref fTR) = true)
    (aIC : PySem.W.nsIn K mainGlobals "is_change" = some (some (.ref fIC))) (lIC : K.lookup fIC = some ⟨ocIC, odIC, .func (PySem.W.fnOf "is_change" "is_change" (defArgs sIC) (defBody sIC) (defScope sIC) .none kVIC dcIC pmIC anIC cdIC ctIC), slIC⟩)
      (cIC : PySem.W.codeIn K cdIC "is_change" = true) (kIC : PySem.W.keepIn K (.ref fIC) = true)
    (aWT : PySem.W.nsIn K mainGlobals "way_to" = some (some (.ref fWT))) (lWT : K.lookup fWT = some ⟨ocWT, odWT, .func (PySem.W.fnOf "way_to" "way_to" (defArgs sWT) (defBody sWT) (defScope sWT) .none kVWT dcWT pmWT anWT cdWT ctWT), slWT⟩)
      (cWT : PySem.W.codeIn K cdWT "way_to" = true) (kWT : PySem.W.keepIn K (.ref fWT) = true)
    (aVo : PySem.W.nsIn K mainGlobals "vote" = some (some (.ref fVo))) (lVo : K.lookup fVo = some ⟨ocVo, odVo, .func (PySem.W.fnOf "vote" "vote" (defArgs sVo) (defBody sVo) (defScope sVo) .none kVVo dcVo pmVo anVo cdVo ctVo), slVo⟩)
      (cVo : PySem.W.codeIn K cdVo "vote" = true) (kVo : PySem.W.keepIn K (.ref fVo) = true)
    (aCS : PySem.W.nsIn K mainGlobals "change_surplus" = some (some (.ref fCS))) (lCS : K.lookup fCS = some ⟨ocCS, odCS, .func (PySem.W.fnOf "change_surplus" "change_surplus" (defArgs sCS) (defBody sCS) (defScope sCS) .none kVCS dcCS pmCS anCS cdCS ctCS), slCS⟩)
      (cCS : PySem.W.codeIn K cdCS "change_surplus" = true) (kCS : PySem.W.keepIn K (.ref fCS) = true)
    (aGT : PySem.W.nsIn K mainGlobals "gathered_tables" = some (some (.ref fGT))) (lGT : K.lookup fGT = some ⟨ocGT, odGT, .func (PySem.W.fnOf "gathered_tables" "gathered_tables" (defArgs sGT) (defBody sGT) (defScope sGT) .none kVGT dcGT pmGT anGT cdGT ctGT), slGT⟩)
      (cGT : PySem.W.codeIn K cdGT "gathered_tables" = true) (kGT : PySem.W.keepIn K (.ref fGT) = true)
    (aOC : PySem.W.nsIn K mainGlobals "option_columns" = some (some (.ref fOC))) (lOC : K.lookup fOC = some ⟨ocOC, odOC, .func (PySem.W.fnOf "option_columns" "option_columns" (defArgs sOC) (defBody sOC) (defScope sOC) .none kVOC dcOC pmOC anOC cdOC ctOC), slOC⟩)
      (cOC : PySem.W.codeIn K cdOC "option_columns" = true) (kOC : PySem.W.keepIn K (.ref fOC) = true)
    (aPT : PySem.W.nsIn K mainGlobals "post_transport" = some (some (.ref fPT))) (lPT : K.lookup fPT = some ⟨ocPT, odPT, .func (PySem.W.fnOf "post_transport" "post_transport" (defArgs sPT) (defBody sPT) (defScope sPT) .none kVPT dcPT pmPT anPT cdPT ctPT), slPT⟩)
      (cPT : PySem.W.codeIn K cdPT "post_transport" = true) (kPT : PySem.W.keepIn K (.ref fPT) = true)
    (aVT : PySem.W.nsIn K mainGlobals "vote_transport" = some (some (.ref fVT))) (lVT : K.lookup fVT = some ⟨ocVT, odVT, .func (PySem.W.fnOf "vote_transport" "vote_transport" (defArgs sVT) (defBody sVT) (defScope sVT) .none kVVT dcVT pmVT anVT cdVT ctVT), slVT⟩)
      (cVT : PySem.W.codeIn K cdVT "vote_transport" = true) (kVT : PySem.W.keepIn K (.ref fVT) = true)
    (aMC : PySem.W.nsIn K mainGlobals "margin_certificate" = some (some (.ref fMC))) (lMC : K.lookup fMC = some ⟨ocMC, odMC, .func (PySem.W.fnOf "margin_certificate" "margin_certificate" (defArgs sMC) (defBody sMC) (defScope sMC) .none kVMC dcMC pmMC anMC cdMC ctMC), slMC⟩)
      (cMC : PySem.W.codeIn K cdMC "margin_certificate" = true) (kMC : PySem.W.keepIn K (.ref fMC) = true)
    (aSR : PySem.W.nsIn K mainGlobals "stay_row" = some (some (.ref fSR))) (lSR : K.lookup fSR = some ⟨ocSR, odSR, .func (PySem.W.fnOf "stay_row" "stay_row" (defArgs sSR) (defBody sSR) (defScope sSR) .none kVSR dcSR pmSR anSR cdSR ctSR), slSR⟩)
      (cSR : PySem.W.codeIn K cdSR "stay_row" = true) (kSR : PySem.W.keepIn K (.ref fSR) = true)
    (aSC : PySem.W.nsIn K mainGlobals "stay_change" = some (some (.ref fSC))) (lSC : K.lookup fSC = some ⟨ocSC, odSC, .func (PySem.W.fnOf "stay_change" "stay_change" (defArgs sSC) (defBody sSC) (defScope sSC) .none kVSC dcSC pmSC anSC cdSC ctSC), slSC⟩)
      (cSC : PySem.W.codeIn K cdSC "stay_change" = true) (kSC : PySem.W.keepIn K (.ref fSC) = true)
    (aBg : PySem.W.nsIn K mainGlobals "best_gain" = some (some (.ref fBg))) (lBg : K.lookup fBg = some ⟨ocBg, odBg, .func (PySem.W.fnOf "best_gain" "best_gain" (defArgs sBg) (defBody sBg) (defScope sBg) .none kVBg dcBg pmBg anBg cdBg ctBg), slBg⟩)
      (cBg : PySem.W.codeIn K cdBg "best_gain" = true) (kBg : PySem.W.keepIn K (.ref fBg) = true)
    (aPl : PySem.W.nsIn K mainGlobals "price_limit" = some (some (.ref fPl))) (lPl : K.lookup fPl = some ⟨ocPl, odPl, .func (PySem.W.fnOf "price_limit" "price_limit" (defArgs sPl) (defBody sPl) (defScope sPl) .none kVPl dcPl pmPl anPl cdPl ctPl), slPl⟩)
      (cPl : PySem.W.codeIn K cdPl "price_limit" = true) (kPl : PySem.W.keepIn K (.ref fPl) = true)
    (aIP : PySem.W.nsIn K mainGlobals "is_prices" = some (some (.ref fIP))) (lIP : K.lookup fIP = some ⟨ocIP, odIP, .func (PySem.W.fnOf "is_prices" "is_prices" (defArgs sIP) (defBody sIP) (defScope sIP) .none kVIP dcIP pmIP anIP cdIP ctIP), slIP⟩)
      (cIP : PySem.W.codeIn K cdIP "is_prices" = true) (kIP : PySem.W.keepIn K (.ref fIP) = true)
    (aMH : PySem.W.nsIn K mainGlobals "margin_holds" = some (some (.ref fMH))) (lMH : K.lookup fMH = some ⟨ocMH, odMH, .func (PySem.W.fnOf "margin_holds" "margin_holds" (defArgs sMH) (defBody sMH) (defScope sMH) .none kVMH dcMH pmMH anMH cdMH ctMH), slMH⟩)
      (cMH : PySem.W.codeIn K cdMH "margin_holds" = true) (kMH : PySem.W.keepIn K (.ref fMH) = true)
    (aSt : PySem.W.nsIn K mainGlobals "_law_stream" = some (some (.ref fSt))) (lSt : K.lookup fSt = some ⟨ocSt, odSt, .func (PySem.W.fnOf "_law_stream" "_law_stream" (defArgs sStart) (defBody sStart) (defScope sStart) .none kVSt dcSt pmSt anSt cdSt ctSt), slSt⟩)
      (cSt : PySem.W.codeIn K cdSt "_law_stream" = true) (kSt : PySem.W.keepIn K (.ref fSt) = true)
    (aDr : PySem.W.nsIn K mainGlobals "_law_draw" = some (some (.ref fDr))) (lDr : K.lookup fDr = some ⟨ocDr, odDr, .func (PySem.W.fnOf "_law_draw" "_law_draw" (defArgs sDraw) (defBody sDraw) (defScope sDraw) .none kVDr dcDr pmDr anDr cdDr ctDr), slDr⟩)
      (cDr : PySem.W.codeIn K cdDr "_law_draw" = true) (kDr : PySem.W.keepIn K (.ref fDr) = true)
    (aOn : PySem.W.nsIn K mainGlobals "_law_one" = some (some (.ref fOn))) (lOn : K.lookup fOn = some ⟨ocOn, odOn, .func (PySem.W.fnOf "_law_one" "_law_one" (defArgs sOne) (defBody sOne) (defScope sOne) .none kVOn dcOn pmOn anOn cdOn ctOn), slOn⟩)
      (cOn : PySem.W.codeIn K cdOn "_law_one" = true) (kOn : PySem.W.keepIn K (.ref fOn) = true)
    (aSm : PySem.W.nsIn K mainGlobals "_law_same" = some (some (.ref fSm))) (lSm : K.lookup fSm = some ⟨ocSm, odSm, .func (PySem.W.fnOf "_law_same" "_law_same" (defArgs sSame) (defBody sSame) (defScope sSame) .none kVSm dcSm pmSm anSm cdSm ctSm), slSm⟩)
      (cSm : PySem.W.codeIn K cdSm "_law_same" = true) (kSm : PySem.W.keepIn K (.ref fSm) = true)
    (aLi : PySem.W.nsIn K mainGlobals "_law_list" = some (some (.ref fLi))) (lLi : K.lookup fLi = some ⟨ocLi, odLi, .func (PySem.W.fnOf "_law_list" "_law_list" (defArgs sLi) (defBody sLi) (defScope sLi) .none kVLi dcLi pmLi anLi cdLi ctLi), slLi⟩)
      (cLi : PySem.W.codeIn K cdLi "_law_list" = true) (kLi : PySem.W.keepIn K (.ref fLi) = true)
    (aSl : PySem.W.nsIn K mainGlobals "_law_small" = some (some (.ref fSl))) (lSl : K.lookup fSl = some ⟨ocSl, odSl, .func (PySem.W.fnOf "_law_small" "_law_small" (defArgs sSl) (defBody sSl) (defScope sSl) .none kVSl dcSl pmSl anSl cdSl ctSl), slSl⟩)
      (cSl : PySem.W.codeIn K cdSl "_law_small" = true) (kSl : PySem.W.keepIn K (.ref fSl) = true)
    (aAs : PySem.W.nsIn K mainGlobals "_law_assignment" = some (some (.ref fAs))) (lAs : K.lookup fAs = some ⟨ocAs, odAs, .func (PySem.W.fnOf "_law_assignment" "_law_assignment" (defArgs sAs) (defBody sAs) (defScope sAs) .none kVAs dcAs pmAs anAs cdAs ctAs), slAs⟩)
      (cAs : PySem.W.codeIn K cdAs "_law_assignment" = true) (kAs : PySem.W.keepIn K (.ref fAs) = true)
    (aLV : PySem.W.nsIn K mainGlobals "_law_vote" = some (some (.ref fLV))) (lLV : K.lookup fLV = some ⟨ocLV, odLV, .func (PySem.W.fnOf "_law_vote" "_law_vote" (defArgs sLV) (defBody sLV) (defScope sLV) .none kVLV dcLV pmLV anLV cdLV ctLV), slLV⟩)
      (cLV : PySem.W.codeIn K cdLV "_law_vote" = true) (kLV : PySem.W.keepIn K (.ref fLV) = true)
    (aLL : PySem.W.nsIn K mainGlobals "_law_limit" = some (some (.ref fLL))) (lLL : K.lookup fLL = some ⟨ocLL, odLL, .func (PySem.W.fnOf "_law_limit" "_law_limit" (defArgs sLL) (defBody sLL) (defScope sLL) .none kVLL dcLL pmLL anLL cdLL ctLL), slLL⟩)
      (cLL : PySem.W.codeIn K cdLL "_law_limit" = true) (kLL : PySem.W.keepIn K (.ref fLL) = true)
    (aLC : PySem.W.nsIn K mainGlobals "_law_is_change" = some (some (.ref fLC))) (lLC : K.lookup fLC = some ⟨ocLC, odLC, .func (PySem.W.fnOf "_law_is_change" "_law_is_change" (defArgs sLC) (defBody sLC) (defScope sLC) .none kVLC dcLC pmLC anLC cdLC ctLC), slLC⟩)
      (cLC : PySem.W.codeIn K cdLC "_law_is_change" = true) (kLC : PySem.W.keepIn K (.ref fLC) = true)
    (aLS : PySem.W.nsIn K mainGlobals "_law_surplus" = some (some (.ref fLS))) (lLS : K.lookup fLS = some ⟨ocLS, odLS, .func (PySem.W.fnOf "_law_surplus" "_law_surplus" (defArgs sLS) (defBody sLS) (defScope sLS) .none kVLS dcLS pmLS anLS cdLS ctLS), slLS⟩)
      (cLS : PySem.W.codeIn K cdLS "_law_surplus" = true) (kLS : PySem.W.keepIn K (.ref fLS) = true)
    (aOd : PySem.W.nsIn K mainGlobals "_law_odd" = some (some (.ref fOd))) (lOd : K.lookup fOd = some ⟨ocOd, odOd, .func (PySem.W.fnOf "_law_odd" "_law_odd" (defArgs sOd) (defBody sOd) (defScope sOd) .none kVOd dcOd pmOd anOd cdOd ctOd), slOd⟩)
      (cOd : PySem.W.codeIn K cdOd "_law_odd" = true) (kOd : PySem.W.keepIn K (.ref fOd) = true)
    (aBe : PySem.W.nsIn K mainGlobals "_law_bent" = some (some (.ref fBe))) (lBe : K.lookup fBe = some ⟨ocBe, odBe, .func (PySem.W.fnOf "_law_bent" "_law_bent" (defArgs sBe) (defBody sBe) (defScope sBe) .none kVBe dcBe pmBe anBe cdBe ctBe), slBe⟩)
      (cBe : PySem.W.codeIn K cdBe "_law_bent" = true) (kBe : PySem.W.keepIn K (.ref fBe) = true)
    (aDu : PySem.W.nsIn K mainGlobals "_law_due" = some (some (.ref fDu))) (lDu : K.lookup fDu = some ⟨ocDu, odDu, .func (PySem.W.fnOf "_law_due" "_law_due" (defArgs sDu) (defBody sDu) (defScope sDu) .none kVDu dcDu pmDu anDu cdDu ctDu), slDu⟩)
      (cDu : PySem.W.codeIn K cdDu "_law_due" = true) (kDu : PySem.W.keepIn K (.ref fDu) = true)
    (aLa : PySem.W.nsIn K mainGlobals "law" = some (some (.ref fLa))) (lLa : K.lookup fLa = some ⟨ocLa, odLa, .func (PySem.W.fnOf "law" "law" (defArgs sLa) (defBody sLa) (defScope sLa) .none kVLa dcLa pmLa anLa cdLa ctLa), slLa⟩)
      (cLa : PySem.W.codeIn K cdLa "law" = true) (kLa : PySem.W.keepIn K (.ref fLa) = true)
    (z0 : PySem.W.nsIn K mainGlobals "isinstance" = some none)
    (z1 : PySem.W.nsIn K mainGlobals "int" = some none)
    (z2 : PySem.W.nsIn K mainGlobals "bool" = some none)
    (z3 : PySem.W.nsIn K mainGlobals "str" = some none)
    (z4 : PySem.W.nsIn K mainGlobals "tuple" = some none)
    (z5 : PySem.W.nsIn K mainGlobals "list" = some none)
    (z6 : PySem.W.nsIn K mainGlobals "len" = some none)
    (z7 : PySem.W.nsIn K mainGlobals "all" = some none)
    (z8 : PySem.W.nsIn K mainGlobals "sum" = some none)
    (z9 : PySem.W.nsIn K mainGlobals "zip" = some none)
    (z10 : PySem.W.nsIn K mainGlobals "abs" = some none)
    (z11 : PySem.W.nsIn K mainGlobals "min" = some none)
    (z12 : PySem.W.nsIn K mainGlobals "max" = some none)
    (z13 : PySem.W.nsIn K mainGlobals "range" = some none)
    (z14 : PySem.W.nsIn K mainGlobals "repr" = some none)
    (z15 : PySem.W.nsIn K mainGlobals "enumerate" = some none)
    (z16 : PySem.W.nsIn K mainGlobals "sorted" = some none)
    (z17 : PySem.W.nsIn K mainGlobals "dict" = some none)
    {uHIGHEST : Value} (y0 : PySem.W.nsIn K mainGlobals "HIGHEST" = some (some uHIGHEST)) (rHIGHEST : RelV (.int 2) uHIGHEST)
    {cT fTI fTM fTS fTP fTA fTQ : Addr} {odTI anTI odTM anTM odTS anTS odTP anTP odTA anTA odTQ anTQ : Option Addr} {slTI slTM slTS slTP slTA slTQ : Array (Option Value)} {ocTI kVTI dcTI pmTI cdTI ctTI ocTM kVTM dcTM pmTM cdTM ctTM ocTS kVTS dcTS pmTS cdTS ctTS ocTP kVTP dcTP pmTP cdTP ctTP ocTA kVTA dcTA pmTA cdTA ctTA ocTQ kVTQ dcTQ pmTQ cdTQ ctTQ : Value}
    (aT : PySem.W.nsIn K mainGlobals "Transport" = some (some (.ref cT)))
    (aTI : PySem.W.findIn K (.ref cT) "__init__" = some (some (.ref fTI))) (iTI : PySem.W.isFn K (.ref fTI) = true) (lTI : K.lookup fTI = some ⟨ocTI, odTI, .func (PySem.W.fnOf "__init__" "Transport.__init__" (defArgs sTI) (defBody sTI) (defScope sTI) .none kVTI dcTI pmTI anTI cdTI ctTI), slTI⟩) (cTI : PySem.W.codeIn K cdTI "Transport.__init__" = true) (kTI : PySem.W.keepIn K (.ref fTI) = true)
    (aTM : PySem.W.findIn K (.ref cT) "cheapest_moves" = some (some (.ref fTM))) (iTM : PySem.W.isFn K (.ref fTM) = true) (lTM : K.lookup fTM = some ⟨ocTM, odTM, .func (PySem.W.fnOf "cheapest_moves" "Transport.cheapest_moves" (defArgs sTM) (defBody sTM) (defScope sTM) .none kVTM dcTM pmTM anTM cdTM ctTM), slTM⟩) (cTM : PySem.W.codeIn K cdTM "Transport.cheapest_moves" = true) (kTM : PySem.W.keepIn K (.ref fTM) = true)
    (aTS : PySem.W.findIn K (.ref cT) "search_columns" = some (some (.ref fTS))) (iTS : PySem.W.isFn K (.ref fTS) = true) (lTS : K.lookup fTS = some ⟨ocTS, odTS, .func (PySem.W.fnOf "search_columns" "Transport.search_columns" (defArgs sTS) (defBody sTS) (defScope sTS) .none kVTS dcTS pmTS anTS cdTS ctTS), slTS⟩) (cTS : PySem.W.codeIn K cdTS "Transport.search_columns" = true) (kTS : PySem.W.keepIn K (.ref fTS) = true)
    (aTP : PySem.W.findIn K (.ref cT) "push" = some (some (.ref fTP))) (iTP : PySem.W.isFn K (.ref fTP) = true) (lTP : K.lookup fTP = some ⟨ocTP, odTP, .func (PySem.W.fnOf "push" "Transport.push" (defArgs sTP) (defBody sTP) (defScope sTP) .none kVTP dcTP pmTP anTP cdTP ctTP), slTP⟩) (cTP : PySem.W.codeIn K cdTP "Transport.push" = true) (kTP : PySem.W.keepIn K (.ref fTP) = true)
    (aTA : PySem.W.findIn K (.ref cT) "add_row" = some (some (.ref fTA))) (iTA : PySem.W.isFn K (.ref fTA) = true) (lTA : K.lookup fTA = some ⟨ocTA, odTA, .func (PySem.W.fnOf "add_row" "Transport.add_row" (defArgs sTA) (defBody sTA) (defScope sTA) .none kVTA dcTA pmTA anTA cdTA ctTA), slTA⟩) (cTA : PySem.W.codeIn K cdTA "Transport.add_row" = true) (kTA : PySem.W.keepIn K (.ref fTA) = true)
    (aTQ : PySem.W.findIn K (.ref cT) "column_prices" = some (some (.ref fTQ))) (iTQ : PySem.W.isFn K (.ref fTQ) = true) (lTQ : K.lookup fTQ = some ⟨ocTQ, odTQ, .func (PySem.W.fnOf "column_prices" "Transport.column_prices" (defArgs sTQ) (defBody sTQ) (defScope sTQ) .none kVTQ dcTQ pmTQ anTQ cdTQ ctTQ), slTQ⟩) (cTQ : PySem.W.codeIn K cdTQ "Transport.column_prices" = true) (kTQ : PySem.W.keepIn K (.ref fTQ) = true)
    (pgT : PySem.W.plainGet K cT Str.empty = true) (hdT : PySem.W.hasDictIn K cT = true) (poT : PySem.W.plainOver K cT = true) (saT : PySem.W.findIn K (.ref cT) "__setattr__" = some (some (.builtin "object.__setattr__"))) (mkT : PySem.W.makesIn K cT = true) (kcT : PySem.W.keepIn K (.ref cT) = true)
    (nR : PySem.W.findIn K (.ref cT) "room" = some none) (nC : PySem.W.findIn K (.ref cT) "costs" = some none) (nP : PySem.W.findIn K (.ref cT) "plan" = some none)
    : ∃ fd : FuncData, (∀ (s : Shared) (v : Value), BindsTo s fd ⟨[v], []⟩ [("_law_script", v)]) ∧ ∀ base : Heap, K.In base → base.Ns mainGlobals mg → FnG l.prog w K mg base 37 fa fd ["_law_script"] (spLaw K) := by
  have e := hfa.symm.trans (PySem.W.mg_of X G aLa)
  cases e
  have FWh := fun_mk (st := sWhole) lWh cWh kWh
  have bWh := FWh.binds (ps := ["value"]) fun _ _ _ _ _ _ us hl => match us, hl with | [_], _ => rfl
  have gWh := PySem.W.mg_of X G aWh
  have FWi := fun_mk (st := sWithin) lWi cWi kWi
  have bWi := FWi.binds (ps := ["value", "least", "most"]) fun _ _ _ _ _ _ us hl => match us, hl with | [_, _, _], _ => rfl
  have gWi := PySem.W.mg_of X G aWi
  have FTo := fun_mk (st := sTupOf) lTo cTo kTo
  have bTo := FTo.binds (ps := ["value", "least", "most"]) fun _ _ _ _ _ _ us hl => match us, hl with | [_, _, _], _ => rfl
  have gTo := PySem.W.mg_of X G aTo
  have FSp := fun_mk (st := sSp) lSp cSp kSp
  have bSp := FSp.binds (ps := ["value", "size", "total"]) fun _ _ _ _ _ _ us hl => match us, hl with | [_, _, _], _ => rfl
  have gSp := PySem.W.mg_of X G aSp
  have FLo := fun_mk (st := sLoads) lLo cLo kLo
  have bLo := FLo.binds (ps := ["instance", "assignment"]) fun _ _ _ _ _ _ us hl => match us, hl with | [_, _], _ => rfl
  have gLo := PySem.W.mg_of X G aLo
  have FIA := fun_mk (st := sIA) lIA cIA kIA
  have bIA := FIA.binds (ps := ["instance", "value"]) fun _ _ _ _ _ _ us hl => match us, hl with | [_, _], _ => rfl
  have gIA := PySem.W.mg_of X G aIA
  have FTa := fun_mk (st := sTa) lTa cTa kTa
  have bTa := FTa.binds (ps := ["share", "value"]) fun _ _ _ _ _ _ us hl => match us, hl with | [_, _], _ => rfl
  have gTa := PySem.W.mg_of X G aTa
  have FTR := fun_mk (st := sTR) lTR cTR kTR
  have bTR := FTR.binds (ps := ["tables"]) fun _ _ _ _ _ _ us hl => match us, hl with | [_], _ => rfl
  have gTR := PySem.W.mg_of X G aTR
  have FIC := fun_mk (st := sIC) lIC cIC kIC
  have bIC := FIC.binds (ps := ["instance", "assignment", "value"]) fun _ _ _ _ _ _ us hl => match us, hl with | [_, _, _], _ => rfl
  have gIC := PySem.W.mg_of X G aIC
  have FWT := fun_mk (st := sWT) lWT cWT kWT
  have bWT := FWT.binds (ps := ["found", "end"]) fun _ _ _ _ _ _ us hl => match us, hl with | [_, _], _ => rfl
  have gWT := PySem.W.mg_of X G aWT
  have FVo := fun_mk (st := sVo) lVo cVo kVo
  have bVo := FVo.binds (ps := ["start", "end"]) fun _ _ _ _ _ _ us hl => match us, hl with | [_, _], _ => rfl
  have gVo := PySem.W.mg_of X G aVo
  have FCS := fun_mk (st := sCS) lCS cCS kCS
  have bCS := FCS.binds (ps := ["change"]) fun _ _ _ _ _ _ us hl => match us, hl with | [_], _ => rfl
  have gCS := PySem.W.mg_of X G aCS
  have FGT := fun_mk (st := sGT) lGT cGT kGT
  have bGT := FGT.binds (ps := ["assignment", "rows"]) fun _ _ _ _ _ _ us hl => match us, hl with | [_, _], _ => rfl
  have gGT := PySem.W.mg_of X G aGT
  have FOC := fun_mk (st := sOC) lOC cOC kOC
  have bOC := FOC.binds (ps := ["instance", "group"]) fun _ _ _ _ _ _ us hl => match us, hl with | [_, _], _ => rfl
  have gOC := PySem.W.mg_of X G aOC
  have FPT := fun_mk (st := sPT) lPT cPT kPT
  have bPT := FPT.binds (ps := ["instance"]) fun _ _ _ _ _ _ us hl => match us, hl with | [_], _ => rfl
  have gPT := PySem.W.mg_of X G aPT
  have FVT := fun_mk (st := sVT) lVT cVT kVT
  have bVT := FVT.binds (ps := ["instance", "assignment"]) fun _ _ _ _ _ _ us hl => match us, hl with | [_, _], _ => rfl
  have gVT := PySem.W.mg_of X G aVT
  have FMC := fun_mk (st := sMC) lMC cMC kMC
  have bMC := FMC.binds (ps := ["instance", "assignment"]) fun _ _ _ _ _ _ us hl => match us, hl with | [_, _], _ => rfl
  have gMC := PySem.W.mg_of X G aMC
  have FSR := fun_mk (st := sSR) lSR cSR kSR
  have bSR := FSR.binds (ps := ["share", "option"]) fun _ _ _ _ _ _ us hl => match us, hl with | [_, _], _ => rfl
  have gSR := PySem.W.mg_of X G aSR
  have FSC := fun_mk (st := sSC) lSC cSC kSC
  have bSC := FSC.binds (ps := ["assignment"]) fun _ _ _ _ _ _ us hl => match us, hl with | [_], _ => rfl
  have gSC := PySem.W.mg_of X G aSC
  have FBg := fun_mk (st := sBg) lBg cBg kBg
  have bBg := FBg.binds (ps := ["start", "costs"]) fun _ _ _ _ _ _ us hl => match us, hl with | [_, _], _ => rfl
  have gBg := PySem.W.mg_of X G aBg
  have FPl := fun_mk (st := sPl) lPl cPl kPl
  have bPl := FPl.binds (ps := ["instance", "assignment", "prices"]) fun _ _ _ _ _ _ us hl => match us, hl with | [_, _, _], _ => rfl
  have gPl := PySem.W.mg_of X G aPl
  have FIP := fun_mk (st := sIP) lIP cIP kIP
  have bIP := FIP.binds (ps := ["instance", "value"]) fun _ _ _ _ _ _ us hl => match us, hl with | [_, _], _ => rfl
  have gIP := PySem.W.mg_of X G aIP
  have FMH := fun_mk (st := sMH) lMH cMH kMH
  have bMH := FMH.binds (ps := ["instance", "assignment", "value"]) fun _ _ _ _ _ _ us hl => match us, hl with | [_, _, _], _ => rfl
  have gMH := PySem.W.mg_of X G aMH
  have FSt := fun_mk (st := sStart) lSt cSt kSt
  have bSt := FSt.binds (ps := ["_law_script"]) fun _ _ _ _ _ _ us hl => match us, hl with | [_], _ => rfl
  have gSt := PySem.W.mg_of X G aSt
  have FDr := fun_mk (st := sDraw) lDr cDr kDr
  have bDr := FDr.binds (ps := ["_law_stream_here", "_law_bound"]) fun _ _ _ _ _ _ us hl => match us, hl with | [_, _], _ => rfl
  have gDr := PySem.W.mg_of X G aDr
  have FOn := fun_mk (st := sOne) lOn cOn kOn
  have bOn := FOn.binds (ps := ["_law_stream_here", "_law_items"]) fun _ _ _ _ _ _ us hl => match us, hl with | [_, _], _ => rfl
  have gOn := PySem.W.mg_of X G aOn
  have FSm := fun_mk (st := sSame) lSm cSm kSm
  have bSm := FSm.binds (ps := ["_law_found", "_law_due_here"]) fun _ _ _ _ _ _ us hl => match us, hl with | [_, _], _ => rfl
  have gSm := PySem.W.mg_of X G aSm
  have FLi := fun_mk (st := sLi) lLi cLi kLi
  have bLi := FLi.binds (ps := ["_law_stream_here", "_law_posts"]) fun _ _ _ _ _ _ us hl => match us, hl with | [_, _], _ => rfl
  have gLi := PySem.W.mg_of X G aLi
  have FSl := fun_mk (st := sSl) lSl cSl kSl
  have bSl := FSl.binds (ps := ["_law_stream_here"]) fun _ _ _ _ _ _ us hl => match us, hl with | [_], _ => rfl
  have gSl := PySem.W.mg_of X G aSl
  have FAs := fun_mk (st := sAs) lAs cAs kAs
  have bAs := FAs.binds (ps := ["_law_stream_here", "_law_instance"]) fun _ _ _ _ _ _ us hl => match us, hl with | [_, _], _ => rfl
  have gAs := PySem.W.mg_of X G aAs
  have FLV := fun_mk (st := sLV) lLV cLV kLV
  have bLV := FLV.binds (ps := ["_law_option", "_law_other"]) fun _ _ _ _ _ _ us hl => match us, hl with | [_, _], _ => rfl
  have gLV := PySem.W.mg_of X G aLV
  have FLL := fun_mk (st := sLL) lLL cLL kLL
  have bLL := FLL.binds (ps := ["_law_instance", "_law_assignment_here", "_law_prices"]) fun _ _ _ _ _ _ us hl => match us, hl with | [_, _, _], _ => rfl
  have gLL := PySem.W.mg_of X G aLL
  have FLC := fun_mk (st := sLC) lLC cLC kLC
  have bLC := FLC.binds (ps := ["_law_instance", "_law_assignment_here", "_law_value"]) fun _ _ _ _ _ _ us hl => match us, hl with | [_, _, _], _ => rfl
  have gLC := PySem.W.mg_of X G aLC
  have FLS := fun_mk (st := sLS) lLS cLS kLS
  have bLS := FLS.binds (ps := ["_law_change"]) fun _ _ _ _ _ _ us hl => match us, hl with | [_], _ => rfl
  have gLS := PySem.W.mg_of X G aLS
  have FOd := fun_mk (st := sOd) lOd cOd kOd
  have bOd := FOd.binds (ps := ["_law_stream_here"]) fun _ _ _ _ _ _ us hl => match us, hl with | [_], _ => rfl
  have gOd := PySem.W.mg_of X G aOd
  have FBe := fun_mk (st := sBe) lBe cBe kBe
  have bBe := FBe.binds (ps := ["_law_stream_here", "_law_value"]) fun _ _ _ _ _ _ us hl => match us, hl with | [_, _], _ => rfl
  have gBe := PySem.W.mg_of X G aBe
  have FDu := fun_mk (st := sDu) lDu cDu kDu
  have bDu := FDu.binds (ps := ["_law_instance", "_law_assignment_here", "_law_value"]) fun _ _ _ _ _ _ us hl => match us, hl with | [_, _, _], _ => rfl
  have gDu := PySem.W.mg_of X G aDu
  have FLa := fun_mk (st := sLa) lLa cLa kLa
  have m_isinstance := PySem.W.mg_none_of X G z0
  have m_int := PySem.W.mg_none_of X G z1
  have m_bool := PySem.W.mg_none_of X G z2
  have m_str := PySem.W.mg_none_of X G z3
  have m_tuple := PySem.W.mg_none_of X G z4
  have m_list := PySem.W.mg_none_of X G z5
  have m_len := PySem.W.mg_none_of X G z6
  have m_all := PySem.W.mg_none_of X G z7
  have m_sum := PySem.W.mg_none_of X G z8
  have m_zip := PySem.W.mg_none_of X G z9
  have m_abs := PySem.W.mg_none_of X G z10
  have m_min := PySem.W.mg_none_of X G z11
  have m_max := PySem.W.mg_none_of X G z12
  have m_range := PySem.W.mg_none_of X G z13
  have m_repr := PySem.W.mg_none_of X G z14
  have m_enumerate := PySem.W.mg_none_of X G z15
  have m_sorted := PySem.W.mg_none_of X G z16
  have m_dict := PySem.W.mg_none_of X G z17
  have vHIGHEST := PySem.W.mg_of X G y0
  have T : TTx K mg cT := ⟨⟨pgT, hdT, poT, saT⟩, nR, nC, nP, PySem.W.mg_of X G aT⟩
  have FTI := fun_mk (st := sTI) lTI cTI kTI
  have bTI := FTI.binds (ps := ["self", "room"]) fun _ _ _ _ _ _ us hl => match us, hl with | [_, _], _ => rfl
  have mTI : Mk K cT fTI := ⟨mkT, aTI, iTI, kcT⟩
  have FTM := fun_mk (st := sTM) lTM cTM kTM
  have bTM := FTM.binds (ps := ["self", "start"]) fun _ _ _ _ _ _ us hl => match us, hl with | [_, _], _ => rfl
  have mTM : Meth K cT "cheapest_moves" fTM := ⟨aTM, iTM, kTM⟩
  have FTS := fun_mk (st := sTS) lTS cTS kTS
  have bTS := FTS.binds (ps := ["self"]) fun _ _ _ _ _ _ us hl => match us, hl with | [_], _ => rfl
  have mTS : Meth K cT "search_columns" fTS := ⟨aTS, iTS, kTS⟩
  have FTP := fun_mk (st := sTP) lTP cTP kTP
  have bTP := FTP.binds (ps := ["self", "found", "end", "amount"]) fun _ _ _ _ _ _ us hl => match us, hl with | [_, _, _, _], _ => rfl
  have mTP : Meth K cT "push" fTP := ⟨aTP, iTP, kTP⟩
  have FTA := fun_mk (st := sTA) lTA cTA kTA
  have bTA := FTA.binds (ps := ["self", "amount", "costs"]) fun _ _ _ _ _ _ us hl => match us, hl with | [_, _, _], _ => rfl
  have mTA : Meth K cT "add_row" fTA := ⟨aTA, iTA, kTA⟩
  have FTQ := fun_mk (st := sTQ) lTQ cTQ kTQ
  have bTQ := FTQ.binds (ps := ["self", "highest"]) fun _ _ _ _ _ _ us hl => match us, hl with | [_, _], _ => rfl
  have mTQ : Meth K cT "column_prices" fTQ := ⟨aTQ, iTQ, kTQ⟩
  refine ⟨PySem.W.fnOf "law" "law" (defArgs sLa) (defBody sLa) (defScope sLa) .none kVLa dcLa pmLa anLa cdLa ctLa, fun s v => .of_eq rfl, fun base _ _ => ?_⟩
  have GWh := ok_whole (P := l.prog) (w := w) (base := base) (mg := mg) (k := 0) FWh m_isinstance m_int m_bool
  have GWi := ok_within (P := l.prog) (w := w) (base := base) (mg := mg) (k := 0) FWi FWh bWh gWh GWh
  have GTo := ok_tupOf (P := l.prog) (w := w) (base := base) (mg := mg) (k := 0) FTo m_isinstance m_tuple m_len
  have GSp := ok_Sp (P := l.prog) (w := w) (base := base) (mg := mg) FSp  FTo bTo gTo GTo FWi bWi gWi GWi   m_all m_sum
  have GLo := ok_loads (P := l.prog) (w := w) (base := base) (mg := mg) (k := 0) FLo m_len m_zip m_tuple
  have GIA := ok_IA (P := l.prog) (w := w) (base := base) (mg := mg) FIA  FTo bTo gTo GTo FSp bSp gSp GSp FLo bLo gLo GLo   m_len m_zip m_all
  have GTa := ok_Ta (P := l.prog) (w := w) (base := base) (mg := mg) FTa  FTo bTo gTo GTo FSp bSp gSp GSp   m_len m_zip m_all
  have GTR := ok_TR (P := l.prog) (w := w) (base := base) (mg := mg) FTR     m_zip m_sum m_tuple
  have GIC := ok_IC (P := l.prog) (w := w) (base := base) (mg := mg) FIC  FTo bTo gTo GTo FTa bTa gTa GTa FTR bTR gTR GTR FIA bIA gIA GIA   m_len m_zip m_all
  have GVo := ok_Vo (P := l.prog) (w := w) (base := base) (mg := mg) FVo     
  have GCS := ok_CS (P := l.prog) (w := w) (base := base) (mg := mg) FCS  FVo bVo gVo GVo   m_enumerate m_sum
  have GGT := ok_GT (P := l.prog) (w := w) (base := base) (mg := mg) FGT     m_len m_tuple
  have GTI := ok_TI (P := l.prog) (w := w) (base := base) (mg := mg) T FTI     m_list
  have GWT := ok_WT (P := l.prog) (w := w) (base := base) (mg := mg) FWT     
  have GTM := ok_TM (P := l.prog) (w := w) (base := base) (mg := mg) T FTM     m_enumerate
  have GTS := ok_TS (P := l.prog) (w := w) (base := base) (mg := mg) T FTS  FTM bTM mTM GTM   m_len m_list
  have GTP := ok_TP (P := l.prog) (w := w) (base := base) (mg := mg) T FTP  FWT bWT gWT GWT   m_min
  have GTA := ok_TA (P := l.prog) (w := w) (base := base) (mg := mg) T FTA  FTS bTS mTS GTS FTP bTP mTP GTP   m_dict m_len m_sorted m_min
  have GTQ := ok_TQ (P := l.prog) (w := w) (base := base) (mg := mg) T FTQ  FTM bTM mTM GTM   m_len m_range m_enumerate m_min
  have GOC := ok_OC (P := l.prog) (w := w) (base := base) (mg := mg) FOC     m_len
  have GPT := ok_PT (P := l.prog) (w := w) (base := base) (mg := mg) T FPT  FTI bTI mTI GTI   m_list m_sum
  have GVT := ok_VT (P := l.prog) (w := w) (base := base) (mg := mg) T FVT  FPT bPT gPT GPT FOC bOC gOC GOC FVo bVo gVo GVo FTA bTA mTA GTA   m_enumerate
  have GMC := ok_MC (P := l.prog) (w := w) (base := base) (mg := mg) T FMC  FVT bVT gVT GVT FGT bGT gGT GGT FTQ bTQ mTQ GTQ FCS bCS gCS GCS  vHIGHEST rHIGHEST m_tuple
  have GSR := ok_SR (P := l.prog) (w := w) (base := base) (mg := mg) FSR     m_enumerate m_tuple
  have GSC := ok_SC (P := l.prog) (w := w) (base := base) (mg := mg) FSC  FSR bSR gSR GSR   m_len m_range m_tuple
  have GBg := ok_Bg (P := l.prog) (w := w) (base := base) (mg := mg) FBg  FVo bVo gVo GVo   m_enumerate m_max
  have GPl := ok_Pl (P := l.prog) (w := w) (base := base) (mg := mg) FPl  FBg bBg gBg GBg   m_zip m_sum m_enumerate
  have GIP := ok_IP (P := l.prog) (w := w) (base := base) (mg := mg) FIP  FTo bTo gTo GTo FWi bWi gWi GWi  vHIGHEST rHIGHEST m_len m_all
  have GMH := ok_MH (P := l.prog) (w := w) (base := base) (mg := mg) FMH  FTo bTo gTo GTo FWh bWh gWh GWh FIC bIC gIC GIC FIP bIP gIP GIP FCS bCS gCS GCS FPl bPl gPl GPl   
  have GSt := ok_start (P := l.prog) (w := w) (base := base) (mg := mg) (k := 0) FSt m_abs m_int m_len
  have GDr := ok_draw (P := l.prog) (w := w) (base := base) (mg := mg) (k := 0) FDr m_len
  have GOn := ok_one (P := l.prog) (w := w) (base := base) (mg := mg) (k := 0) FOn FDr bDr gDr GDr m_len
  have GSm := ok_same (P := l.prog) (w := w) (base := base) (mg := mg) FSm bSm gSm m_tuple m_list m_isinstance m_len m_zip m_all m_bool m_int m_str m_repr 5
  have GLi := ok_Li (P := l.prog) (w := w) (base := base) (mg := mg) FLi  FDr bDr gDr GDr FOn bOn gOn GOn   m_list m_range m_min m_len m_tuple
  have GSl := ok_Sl (P := l.prog) (w := w) (base := base) (mg := mg) FSl  FDr bDr gDr GDr FLi bLi gLi GLi   m_range m_tuple
  have GAs := ok_As (P := l.prog) (w := w) (base := base) (mg := mg) FAs  FDr bDr gDr GDr   m_list m_min m_int m_tuple
  have GLV := ok_LV (P := l.prog) (w := w) (base := base) (mg := mg) FLV     m_int
  have GLL := ok_LL (P := l.prog) (w := w) (base := base) (mg := mg) FLL  FLV bLV gLV GLV   m_zip m_sum m_enumerate m_len m_range m_max
  have GLC := ok_LC (P := l.prog) (w := w) (base := base) (mg := mg) FLC     m_tuple m_isinstance m_len m_zip m_int m_bool m_sum
  have GLS := ok_LS (P := l.prog) (w := w) (base := base) (mg := mg) FLS  FLV bLV gLV GLV   m_enumerate m_sum
  have GOd := ok_Od (P := l.prog) (w := w) (base := base) (mg := mg) FOd  FOn bOn gOn GOn   
  have GBe := ok_Be (P := l.prog) (w := w) (base := base) (mg := mg) FBe bBe gBe FDr bDr gDr GDr FOd bOd gOd GOd FOn bOn gOn GOn m_tuple m_isinstance m_len m_list m_int m_str 36
  have GDu := ok_Du (P := l.prog) (w := w) (base := base) (mg := mg) FDu  FLC bLC gLC GLC FLS bLS gLS GLS FLL bLL gLL GLL   m_tuple m_isinstance m_len m_int m_bool
  exact ok_La (P := l.prog) (w := w) (base := base) FLa  FSt bSt gSt GSt FSl bSl gSl GSl FAs bAs gAs GAs FMC bMC gMC GMC FDr bDr gDr GDr FSC bSC gSC GSC FOd bOd gOd GOd FOn bOn gOn GOn FBe bBe gBe GBe FDu bDu gDu GDu FMH bMH gMH GMH FSm bSm gSm GSm   m_range m_tuple m_list m_repr
end Pv

open PySem PySem.W PyProof.Rows
set_option maxRecDepth 100000 in
set_option maxHeartbeats 0 in
theorem PySem.Challenge.cw_postvote_k14_margin_certificates_judged_holds : PySem.Challenge.rw_postvote_k14_margin_certificates_judged.Holds := by
  w_on; o_law; k_head; (case hw => w_witness2)
  k_fill
  refine Pv.walkG (l := PySem.Challenge.rw_postvote_k14_margin_certificates_judged) (n := 63) (k := 37) (x := "_law_script") (sp := fun w => Pv.spLaw _) rfl (by decide) rfl ⟨rfl, by decide, by decide⟩ (fun w h Y => PySem.W.kIn_of Y) ?F (fun _ _ a ns hl _ _ hS => ⟨a, ns, rfl, hS, hl, fun _ => rfl⟩)
  case F =>
    intro w mg fa h KX G hmg
    refine' Pv.all_mk KX G hmg ?aWh ?lWh ?cWh ?kWh ?aWi ?lWi ?cWi ?kWi ?aTo ?lTo ?cTo ?kTo ?aSp ?lSp ?cSp ?kSp ?aLo ?lLo ?cLo ?kLo ?aIA ?lIA ?cIA ?kIA ?aTa ?lTa ?cTa ?kTa ?aTR ?lTR ?cTR ?kTR ?aIC ?lIC ?cIC ?kIC ?aWT ?lWT ?cWT ?kWT ?aVo ?lVo ?cVo ?kVo ?aCS ?lCS ?cCS ?kCS ?aGT ?lGT ?cGT ?kGT ?aOC ?lOC ?cOC ?kOC ?aPT ?lPT ?cPT ?kPT ?aVT ?lVT ?cVT ?kVT ?aMC ?lMC ?cMC ?kMC ?aSR ?lSR ?cSR ?kSR ?aSC ?lSC ?cSC ?kSC ?aBg ?lBg ?cBg ?kBg ?aPl ?lPl ?cPl ?kPl ?aIP ?lIP ?cIP ?kIP ?aMH ?lMH ?cMH ?kMH ?aSt ?lSt ?cSt ?kSt ?aDr ?lDr ?cDr ?kDr ?aOn ?lOn ?cOn ?kOn ?aSm ?lSm ?cSm ?kSm ?aLi ?lLi ?cLi ?kLi ?aSl ?lSl ?cSl ?kSl ?aAs ?lAs ?cAs ?kAs ?aLV ?lLV ?cLV ?kLV ?aLL ?lLL ?cLL ?kLL ?aLC ?lLC ?cLC ?kLC ?aLS ?lLS ?cLS ?kLS ?aOd ?lOd ?cOd ?kOd ?aBe ?lBe ?cBe ?kBe ?aDu ?lDu ?cDu ?kDu ?aLa ?lLa ?cLa ?kLa ?z0 ?z1 ?z2 ?z3 ?z4 ?z5 ?z6 ?z7 ?z8 ?z9 ?z10 ?z11 ?z12 ?z13 ?z14 ?z15 ?z16 ?z17 ?y0 ?rHIGHEST ?aT ?aTI ?iTI ?lTI ?cTI ?kTI ?aTM ?iTM ?lTM ?cTM ?kTM ?aTS ?iTS ?lTS ?cTS ?kTS ?aTP ?iTP ?lTP ?cTP ?kTP ?aTA ?iTA ?lTA ?cTA ?kTA ?aTQ ?iTQ ?lTQ ?cTQ ?kTQ ?pgT ?hdT ?poT ?saT ?mkT ?kcT ?nR ?nC ?nP
    (case aWh => k_is); (case lWh => k_is); (case cWh => k_is); (case kWh => k_is); (case aWi => k_is); (case lWi => k_is); (case cWi => k_is); (case kWi => k_is); (case aTo => k_is); (case lTo => k_is); (case cTo => k_is); (case kTo => k_is); (case aSp => k_is); (case lSp => k_is); (case cSp => k_is); (case kSp => k_is); (case aLo => k_is); (case lLo => k_is); (case cLo => k_is); (case kLo => k_is); (case aIA => k_is); (case lIA => k_is); (case cIA => k_is); (case kIA => k_is); (case aTa => k_is); (case lTa => k_is); (case cTa => k_is); (case kTa => k_is); (case aTR => k_is); (case lTR => k_is); (case cTR => k_is); (case kTR => k_is); (case aIC => k_is); (case lIC => k_is); (case cIC => k_is); (case kIC => k_is); (case aWT => k_is); (case lWT => k_is); (case cWT => k_is); (case kWT => k_is); (case aVo => k_is); (case lVo => k_is); (case cVo => k_is); (case kVo => k_is); (case aCS => k_is); (case lCS => k_is); (case cCS => k_is); (case kCS => k_is); (case aGT => k_is); (case lGT => k_is); (case cGT => k_is); (case kGT => k_is); (case aOC => k_is); (case lOC => k_is); (case cOC => k_is); (case kOC => k_is); (case aPT => k_is); (case lPT => k_is); (case cPT => k_is); (case kPT => k_is); (case aVT => k_is); (case lVT => k_is); (case cVT => k_is); (case kVT => k_is); (case aMC => k_is); (case lMC => k_is); (case cMC => k_is); (case kMC => k_is); (case aSR => k_is); (case lSR => k_is); (case cSR => k_is); (case kSR => k_is); (case aSC => k_is); (case lSC => k_is); (case cSC => k_is); (case kSC => k_is); (case aBg => k_is); (case lBg => k_is); (case cBg => k_is); (case kBg => k_is); (case aPl => k_is); (case lPl => k_is); (case cPl => k_is); (case kPl => k_is); (case aIP => k_is); (case lIP => k_is); (case cIP => k_is); (case kIP => k_is); (case aMH => k_is); (case lMH => k_is); (case cMH => k_is); (case kMH => k_is); (case aSt => k_is); (case lSt => k_is); (case cSt => k_is); (case kSt => k_is); (case aDr => k_is); (case lDr => k_is); (case cDr => k_is); (case kDr => k_is); (case aOn => k_is); (case lOn => k_is); (case cOn => k_is); (case kOn => k_is); (case aSm => k_is); (case lSm => k_is); (case cSm => k_is); (case kSm => k_is); (case aLi => k_is); (case lLi => k_is); (case cLi => k_is); (case kLi => k_is); (case aSl => k_is); (case lSl => k_is); (case cSl => k_is); (case kSl => k_is); (case aAs => k_is); (case lAs => k_is); (case cAs => k_is); (case kAs => k_is); (case aLV => k_is); (case lLV => k_is); (case cLV => k_is); (case kLV => k_is); (case aLL => k_is); (case lLL => k_is); (case cLL => k_is); (case kLL => k_is); (case aLC => k_is); (case lLC => k_is); (case cLC => k_is); (case kLC => k_is); (case aLS => k_is); (case lLS => k_is); (case cLS => k_is); (case kLS => k_is); (case aOd => k_is); (case lOd => k_is); (case cOd => k_is); (case kOd => k_is); (case aBe => k_is); (case lBe => k_is); (case cBe => k_is); (case kBe => k_is); (case aDu => k_is); (case lDu => k_is); (case cDu => k_is); (case kDu => k_is); (case aLa => k_is); (case lLa => k_is); (case cLa => k_is); (case kLa => k_is); (case z0 => k_is); (case z1 => k_is); (case z2 => k_is); (case z3 => k_is); (case z4 => k_is); (case z5 => k_is); (case z6 => k_is); (case z7 => k_is); (case z8 => k_is); (case z9 => k_is); (case z10 => k_is); (case z11 => k_is); (case z12 => k_is); (case z13 => k_is); (case z14 => k_is); (case z15 => k_is); (case z16 => k_is); (case z17 => k_is); (case y0 => k_is); (case rHIGHEST => exact ⟨_, rfl⟩); (case aT => k_is); (case aTI => k_is); (case iTI => k_is); (case lTI => k_is); (case cTI => k_is); (case kTI => k_is); (case aTM => k_is); (case iTM => k_is); (case lTM => k_is); (case cTM => k_is); (case kTM => k_is); (case aTS => k_is); (case iTS => k_is); (case lTS => k_is); (case cTS => k_is); (case kTS => k_is); (case aTP => k_is); (case iTP => k_is); (case lTP => k_is); (case cTP => k_is); (case kTP => k_is); (case aTA => k_is); (case iTA => k_is); (case lTA => k_is); (case cTA => k_is); (case kTA => k_is); (case aTQ => k_is); (case iTQ => k_is); (case lTQ => k_is); (case cTQ => k_is); (case kTQ => k_is); (case pgT => k_is); (case hdT => k_is); (case poT => k_is); (case saT => k_is); (case mkT => k_is); (case kcT => k_is); (case nR => k_is); (case nC => k_is); (case nP => k_is)
