import PyProof.Rows.All
import Wide.All
import OpenK.AllK
import Wide.FinOn
import HandS.ForMost
import HandS.Conv
import HandS.Zip
import HandS.Walk
import HandS.IsInst
import HandS.Wide
import HandS.EndBits
import HandS.TupAny
import HandS.TupMul
import HandS.Style
import HandS.Deep
import HandS.NoneIn
import HandS.TupLe
import KE.GoesMore
import KE.GoesZip
import HandS.Dict
import HandS.Codes
import HandS.SetFor
import HandS.Strs
import HandS.Text
import HandS.StrMore
import HandS.FStr
import KE.KxAffix
import KE.KxText
import HandS.Exc
import HandS.ExcOwn
import HandS.WordsExc
import HandS.ExcField
import HandS.ExcInit
import KE.KExcIs
import HandS.Steps
import HandS.Iter
import PySem.Challenge.RW_postvote_k72_other_texts_of_instances
set_option Elab.async false
set_option linter.all false
set_option maxRecDepth 100000
namespace Pv
open PySem PySem.Spec PyProof.Rows L2

/-! heaps -/
theorem upNew {H : Hp} {p b : Addr} {o z : HO} (np : H p = none) (h : H b = some z) : upd H p o b = some z := by
  rw [upd_ne (ne_of_none h np)]; exact h
theorem sameNew {H : Hp} {p : Addr} {o : HO} (np : H p = none) : Same H (upd H p o) := fun _ _ e => upNew np e

/-! a def that is called where no repr is under way -/
structure FnG (P : Program) (w : World) (K : PySem.W.Frag) (mg : Str → Option Value) (base : Heap) (k : Nat) (f : Addr) (fd : FuncData) (ps : List Str) (sp : Sp) : Prop where
  cnt : ∀ vs H Q E, sp vs H Q E → vs.length = ps.length
  go : ∀ (A : Around) (outer : List Env) (s : Shared) (H : Hp) (args : Args) (us : List Value) (vs : List V) (Q : VK) (E : XK),
    A.guards = some [] → Room k A → Env0 P w K mg base A outer s H → BindsTo s fd args (ps.zip us) → Vals vs us →
    sp vs H Q E → codeAny (model P w) A (.call (.ref f) args) (CR CX0 outer P w H s Q E) s
section
variable {P : Program} {w : World} {K : PySem.W.Frag} {mg : Str → Option Value} {base : Heap}
theorem okG {x qual : Str} {st : Stmt} {f : Addr} {fd : FuncData} {N ps : List Str} {k : Nat} {sp : Sp}
    (F : Fun K x qual st f fd) (S : FnScope N ps (defScope st)) (cnt : ∀ vs H Q E, sp vs H Q E → vs.length = ps.length)
    (hbody : ∀ (cdv : Value) (A : Around) (outer : List Env) (s : Shared) (H : Hp) (vs : List V) (Q : VK) (E : XK),
      A.guards = some [] → Room k (A.deeper (envOfC qual (defScope st) s.heap.objs.size f cdv)) → sp vs H Q E →
      ∃ t, PSs (cxOf CX0 P w K mg base N qual (defScope st) f cdv A outer s H E).nox (defBody st) t ∧
        t { nx := fun _ H' => Q .non H', rt := Q } (start N vs) H) : FnG P w K mg base (k + 1) f fd ps sp := by
  obtain ⟨oc, od, kV, doc, pm, an, cdv, ct, osl, rfl, lk, hcd⟩ := F.ex
  refine ⟨cnt, ?_⟩
  intro A outer s H args us vs Q E hgd hr e0 hb r hsp
  have hl := cnt vs H Q E hsp
  have kk : ∀ b o, base.get? b = some o → s.heap.get? b = some o := fun b o e => (e0.bs b o e).1
  have KX : K.In s.heap := e0.mod.kin.keeps kk
  have lim : s.heap.NoLimit := e0.mod.nolimit.keeps kk
  refine codeAny_call_function hr.depth (KX _ _ lk) rfl S.co S.gen rfl (PySem.W.codeRec_of KX hcd)
    (hb _ _ _ _ (wpAny_newFunctionEnv_cells S.kind ?_ ?_))
  · rintro ⟨n, v⟩ hy
    rcases S.par n (List.of_mem_zip hy).1 with q | q
    · left; exact q
    · right; exact ⟨q, PySem.W.cellsFrom_some _ _ _ (Or.inl q)⟩
  · intro env he s1 x
    cases he
    refine ⟨lim.keeps x.toInCall.keep, ?_⟩
    apply codeAny_func
    obtain ⟨t, ht0, hq⟩ := hbody cdv A outer s H vs Q E hgd (hr.deeper _) hsp
    have ht := ht0.nox
    have I := inv_start (CX := CX0) (f := f) (qual := qual) (E := E) S hr.hd e0 hl r x
    refine wpAny_mono (ht.run [] s1 (start N vs) H _ I hq) ?_ (fun _ _ z => z)
    intro fl s' hs
    cases fl with
    | ret u => obtain ⟨v, σ', H', J, rv, q⟩ := hs; exact ⟨v, H', J.os, J.bare, J.base, J.hok, rv, q⟩
    | next => obtain ⟨σ', H', J, q⟩ := hs; exact ⟨V.non, H', J.os, J.bare, J.base, J.hok, rfl, q⟩
    | brk => obtain ⟨_, _, _, q⟩ := hs; exact q.elim
    | cont => obtain ⟨_, _, _, q⟩ := hs; exact q.elim
end
section
variable {X : Cx} {k : Nat} {f : Addr} {fd : FuncData} {ps : List Str} {sp : Sp} {x : Str} {p pos : Pos} {e : Expr} {es : List Expr} {t : TA}
theorem pe_callG (F : FnG X.prog X.w X.K X.mg X.base k f fd ps sp) (hgd : X.A.guards = some []) (hr : Room k X.A) (hg : Gl X x)
    (hm : X.mg x = some (.ref f)) (hk : PySem.W.keepIn X.K (.ref f) = true) (hb : Binds X.K fd ps []) (ha : PA X (e :: es) t)
    (hdb : (x == ("__debug__" : Str)) = false := by decide) (he : starEach (e :: es) X.env = (false, eval e X.env) :: starEach es X.env := by rfl)
    (hpl : (backTo pos (starEach es X.env)).any (·.1) = false := by rfl) :
    PE X (.Call (.Name x p) (e :: es) [] pos) (tCall sp [] E0 t) := by
  constructor
  intro pins s σ H Q I h
  refine wpAny_Call_Name_kw (ld_glob I hg hm ?_ hdb)
  refine PySem.W.callWith_K (h₀ := X.base) I.ok.mod.kin hk (thn (ha.run pos pins s σ H _ I h) ?_) he hpl
  rintro us s1 ⟨vs, H1, I1, r, q⟩
  refine ⟨I1.kIn, ?_⟩
  have r2 : Vals (vs ++ []) (us ++ []) := r.append .nil
  have hl : (us ++ []).length = ps.length := by rw [← r2.length]; exact F.cnt _ _ _ _ q
  refine wpAny_call (codeAny_mono (F.go X.A X.stack s1 H1 ⟨us, []⟩ (us ++ []) (vs ++ []) Q E0 hgd hr I1.env0 (hb s1 us I1.kIn hl) r2 q) ?_)
  intro rr s' hq
  match rr, hq with
  | .error e, hq => exact hq.elim
  | .ok (.ret u), hq => exact I1.after hq
  | .ok .next, hq => exact hq.elim
  | .ok .brk, hq => exact hq.elim
  | .ok .cont, hq => exact hq.elim
end
theorem lawG {P : Program} {w : World} {K : PySem.W.Frag} {mg mb : Str → Option Value} {k : Nat} {fa a : Addr} {fd : FuncData} {x : Str} {sp : Sp}
    {s₁ : Shared} {vs : List Value} {ns : List Int} (KX : K.In s₁.heap) (hns : s₁.heap.Ns mainGlobals mg) (hb : s₁.heap.Ns builtinsNs mb)
    (hbb : ∀ x : Str, x ≠ "__name__" → mb x = bootBuiltins x) (hlim : s₁.heap.NoLimit) (hg : s₁.gens = #[])
    (ha : s₁.heap.get? a = some { cls := .type "list", data := .seq vs.toArray }) (hi : IntsAre vs ns) (hl : ns.length ≤ sizeLine)
    (hr : Room k callerA) (F : ∀ base : Heap, K.In base → base.Ns mainGlobals mg → FnG P w K mg base k fa fd [x] sp)
    (hbind : ∀ (s : Shared) (u : Value), BindsTo s fd ⟨[u], []⟩ [(x, u)])
    (hsp : ∀ H : Hp, Only H → SqL K H a (ns.map V.int) → sp [.ref a] H (fun v _ => v = .bl true) E0) :
    codeAny (model P w) callerA (.call (.ref fa) ⟨[.ref a], []⟩)
      (fun r s' => r = .ok (.ret (.bool true)) ∧ OldK s₁.heap s'.heap ∧ s'.os = s₁.os ∧ AllBare s'.gens) s₁ := by
  have rv := vals_ints hi
  have lenV := hi.length
  have core : ∀ H : Hp, Only H → SqL K H a (ns.map V.int) → HOk P w H s₁.heap → (∀ b, H b ≠ none → b = a) → (H a ≠ none → K.lookup a = none) →
      codeAny (model P w) callerA (.call (.ref fa) ⟨[.ref a], []⟩)
        (fun r s' => r = .ok (.ret (.bool true)) ∧ OldK s₁.heap s'.heap ∧ s'.os = s₁.os ∧ AllBare s'.gens) s₁ := by
    intro H hO hS hok hA hK
    have noD : ∀ {b : Addr} {o : Obj} {es : Array DictEntry} {ep : Nat}, s₁.heap.get? b = some o → o.data = .dict es ep → H b = none := by
      intro b o es ep e d
      match q : H b with
      | none => rfl
      | some u =>
        obtain rfl : b = a := hA b (by rw [q]; simp)
        rw [ha] at e
        cases e
        exact absurd d (by intro z; cases z)
    have nsK : ∀ {b : Addr} {m : Str → Option Value}, s₁.heap.Ns b m → (hidT s₁.heap H).Ns b m := by
      rintro b m ⟨o, es, ep, e, d, r⟩
      exact ⟨o, es, ep, hidT_get e (noD e d), d, r⟩
    have hKb : K.In (hidT s₁.heap H) := by
      intro b o e
      refine hidT_get (KX b o e) ?_
      match q : H b with
      | none => rfl
      | some u =>
        obtain rfl : b = a := hA b (by rw [q]; simp)
        rw [hK (by rw [q]; simp)] at e
        cases e
    have hM : Mod K mg (hidT s₁.heap H) := by
      obtain ⟨mc, h1, h2⟩ := hlim
      exact ⟨hKb, nsK hns, ⟨mb, nsK hb, hbb⟩, ⟨mc, nsK h1, h2⟩⟩
    have e0 : Env0 P w K mg (hidT s₁.heap H) callerA [] s₁ H :=
      ⟨rfl, hM, fun b o e => of_hidT e, Nat.le_of_eq (hidT_size _ _), trivial, (fun b hb => by cases hb), hok, .of_eq hg⟩
    refine codeAny_mono ((F _ hKb (nsK hns)).go callerA [] s₁ H ⟨[.ref a], []⟩ [.ref a] [.ref a] _ _ rfl hr e0 (hbind s₁ (.ref a)) (.cons rfl .nil) (hsp H hO hS)) ?_
    intro r s' h
    match r, h with
    | .error e, h => exact h.elim
    | .ok .next, h => exact h.elim
    | .ok .brk, h => exact h.elim
    | .ok .cont, h => exact h.elim
    | .ok (.ret u), h =>
      obtain ⟨v, H', os, bare, un, hok', r', q⟩ := h
      cases (show v = V.bl true from q)
      cases (show u = Value.bool true from r')
      refine ⟨rfl, OldK.of_keep ?_, os, bare⟩
      intro b o e
      match q : H b with
      | none => exact un.keep b o e q (by intro z; cases z) (by intro z; cases z)
      | some u =>
        rcases hO b with z | ⟨ob, xs, z⟩
        · rw [q] at z; cases z
        · obtain ⟨e1, _⟩ := hok b _ z
          obtain ⟨e2, _⟩ := hok' b _ (un.frzs b ob _ z)
          rw [e] at e1
          cases e1
          exact e2
  match hk : K.lookup a with
  | some o =>
    have e := KX a o hk
    rw [ha] at e
    cases e
    refine core (fun _ => none) (fun _ => .inl rfl) (.inr ⟨_, vs.toArray, _, hk, rfl, rfl, rfl, ?_, by simpa using rv⟩) (fun b u z => by cases z) (fun b z => absurd rfl z) (fun z => absurd rfl z)
    rw [List.size_toArray, lenV]; exact hl
  | none =>
    let HA : Hp := fun b => if b = a then some (.frz { cls := .type "list", data := .seq vs.toArray } (.lst (ns.map V.int))) else none
    have at_a : HA a = some (.frz { cls := .type "list", data := .seq vs.toArray } (.lst (ns.map V.int))) := if_pos rfl
    have at_ne : ∀ b, b ≠ a → HA b = none := fun b h => if_neg h
    refine core HA ?_ (.inl (.inr ⟨_, at_a⟩)) ?_ ?_ (fun _ => hk)
    · intro b
      by_cases hb : b = a
      · subst hb; exact .inr ⟨_, _, at_a⟩
      · exact .inl (at_ne b hb)
    · intro b u z
      by_cases hb : b = a
      · subst hb
        rw [at_a] at z
        cases z
        exact ⟨ha, by rw [List.length_map]; exact hl, vs, _, rv, ha⟩
      · rw [at_ne b hb] at z; cases z
    · intro b z
      by_cases hb : b = a
      · exact hb
      · exact absurd (at_ne b hb) z
theorem walkG {l : PySem.W.OpenLaw} {n k : Nat} {q : Program} {loose : List Str} {XP : (Str → Option Value) → Heap → Prop} {YP : World → Heap → Prop}
    {d : DefRec} {K : Params → PySem.W.Frag} {sp : World → Sp} {x : Str} (hn : l.most = some n) (hn2 : n ≤ sizeLine) (hdf : d.params.defaults = [])
    (hr : Room k callerA) (hY : ∀ (w : World) (h : Heap), YP w h → (K w.params).In h)
    (F : ∀ (w : World) (mg : Str → Option Value) (fa : Addr) (h : Heap), (K w.params).In h → h.Ns mainGlobals mg → mg d.name = some (.ref fa) →
      ∃ fd : FuncData, (∀ (s : Shared) (u : Value), BindsTo s fd ⟨[u], []⟩ [(x, u)]) ∧
        ∀ base : Heap, (K w.params).In base → base.Ns mainGlobals mg → FnG l.prog w (K w.params) mg base k fa fd [x] (sp w))
    (hsp : ∀ (w : World) (H : Hp) (a : Addr) (ns : List Int), ns.length ≤ n → (∀ z ∈ ns, Builtin.Int.intBits z ≤ 1048576) → Only H →
      SqL (K w.params) H a (ns.map V.int) → sp w [.ref a] H (fun v _ => v = .bl true) E0) :
    PySem.W.WalkO q loose XP YP l.row.toRowW d [] (fun f vs => PySem.call f vs) := by
  refine Att.attach_callB hn hdf ?_
  intro w s₀ s₁ mg mb fa o pm cd doc a vs ns G Y ho hd hcd hmg hobj hints hlen hbits hg
  have KX := hY w _ Y
  obtain ⟨fd, hb, hF⟩ := F w mg fa _ KX G.T.g hmg
  exact lawG KX G.T.g G.T.b G.T.builtins G.T.nolimit hg hobj hints (Nat.le_trans hlen hn2) hr hF hb (fun H hO hS => hsp w H a ns hlen hbits hO hS)

/-! repr of data -/
theorem call_reprD {X : Cx} (hg : X.A.guards = some []) (hu : X.A.units + 70 < cLine) : CallR X (.builtin "repr")
    (fun xs H Q => ∃ a d, xs = [.ref a] ∧ Dp X.K H (.ref a) d ∧ d.showable = true ∧ d.hasDict = false ∧ d.depth ≤ 60 ∧
      d.shown.length ≤ sizeLine ∧ Q (.str d.shown) H) := by
  intro pins s σ H xs us Q I r h
  obtain ⟨a, d, rfl, hd, h1, h2, h3, h4, q⟩ := h
  obtain ⟨u, rfl, rfl⟩ := vals1 r
  obtain ⟨as, rd⟩ := Dp.reads I d _ _ hd rfl
  exact repr_of_reads' rd h1 (PyData.noDict_hsm h2) hg (by omega) (fun _ _ e => e) (fun h' u tk hk => ⟨.str _, H, I.kept hk, ⟨_, rfl⟩, q⟩) h4
end Pv

namespace Pv
open PySem PySem.Spec PyProof.Rows L2
theorem tup_mul0 (l : Addr) (items : Array Value) (n : Nat) (dd : Option Addr) (sl : Array (Option Value)) (u : Tok) (hi : items.isEmpty = false) :
    Meets (Builtin.«tuple.__mul__» ⟨[.ref l, .int ((0 : Nat) : Int) u], []⟩) (fun _ R s => s.heap.get? l = some { cls := .type "tuple", dict := dd, data := .seq items n, slots := sl } ∧
      R (.ok (.ret (Value.ref s.heap.objs.size))) { s with heap := s.heap.push { cls := Value.type "tuple", data := Data.seq #[] }, toks := s.toks }) :=
  .of_wp fun prog w A R s h => by
    obtain ⟨hp, g, d, tk, os⟩ := s
    obtain ⟨hl, h⟩ := h
    have f1 := AutoSeq1.idx_int
    wp_walk using AutoSeq1.wpAny_loadPart' hl
    repeat (first
      | (refine wpAny_ite_false (decide_eq_false (by simp [hi])) ?_; wp_walk using AutoSeq1.wpAny_loadPart' hl)
      | (refine wpAny_ite_true (decide_eq_true (by simp [hi])) ?_; wp_walk using AutoSeq1.wpAny_loadPart' hl))
    exact ⟨_, rfl, h⟩
theorem tup_mul1 (l : Addr) (items : Array Value) (n : Nat) (dd : Option Addr) (sl : Array (Option Value)) (u : Tok) :
    Meets (Builtin.«tuple.__mul__» ⟨[.ref l, .int ((1 : Nat) : Int) u], []⟩) (fun _ R s => s.heap.get? l = some { cls := .type "tuple", dict := dd, data := .seq items n, slots := sl } ∧
      R (.ok (.ret (Value.ref l))) s) :=
  .of_wp fun prog w A R s h => by
    obtain ⟨hp, g, d, tk, os⟩ := s
    obtain ⟨hl, h⟩ := h
    have f1 := AutoSeq1.idx_int
    wp_walk using AutoSeq1.wpAny_loadPart' hl
    repeat (first
      | (refine wpAny_ite_false (decide_eq_false (by simp)) ?_; wp_walk using AutoSeq1.wpAny_loadPart' hl)
      | (refine wpAny_ite_true (decide_eq_true (by simp)) ?_; wp_walk using AutoSeq1.wpAny_loadPart' hl))
    exact ⟨_, rfl, h⟩
def rRepA (K : PySem.W.Frag) : R2 := fun x y H Q => ∃ (l : Addr) (k : Nat) (xs : List V), x = .ref l ∧ y = .int k ∧ SqT K H l xs ∧ xs ≠ [] ∧ k ≤ 1000 ∧ xs.length ≤ 1000 ∧
    (k = 1 → Q (.ref l) H) ∧ (k ≠ 1 → ∀ p, H p = none → Q (.ref p) (upd H p (.tup (List.replicate k xs).flatten)))
abbrev RC := List V → Hp → VK → Prop
def rLenQ (K : PySem.W.Frag) : RC := fun xs H Q => ∃ (p : Addr) (ys : List V), xs = [.ref p] ∧ (SqL K H p ys ∨ SqT K H p ys) ∧ Q (.int ys.length) H
def rTupQ (K : PySem.W.Frag) : RC := fun xs H Q => ∃ (p : Addr) (ys : List V), xs = [.ref p] ∧ ((SqL K H p ys ∧ ∀ l, H l = none → Q (.ref l) (upd H l (.tup ys))) ∨ (SqT K H p ys ∧ Q (.ref p) H))
section
variable {X : Cx}
theorem call_lenQ : CallR X (.builtin "len") (rLenQ X.K) := call_len_seq
theorem call_tupQ : CallR X (.type "tuple") (rTupQ X.K) := call_tuple_of
/-- o[i] of a list, for o[i] += e -/
theorem get_list : PGet X (fun o i H Q => ∃ (p : Addr) (xs : List V) (j : Nat) (v : V), o = .ref p ∧ i = .int j ∧ SqL X.K H p xs ∧ xs[j]? = some v ∧ Q v H) := by
  intro pins s σ H o i ov iv Q I ro ri h
  obtain ⟨p, xs, j, v, rfl, rfl, hq, he, q⟩ := h
  cases ro
  obtain ⟨t, rfl⟩ := ri
  obtain ⟨its, r, pl, hz⟩ := I.list hq
  obtain ⟨u, eu, ru⟩ := r.get he
  have hj : j < its.length := (List.getElem?_eq_some_iff.mp eu).1
  have hl := r.length
  have hn := line63
  exact wpAny_getItem_list pl.isList (by omega) (by omega) (by simpa using eu) ⟨v, H, I, ru, q⟩
/-- tuple * int -/
theorem op_repA : OpR X (binaryOp .Mult) (rRepA X.K) := by
  intro pins s σ H x y v u Q I rx ry h
  obtain ⟨l, k, xs, rfl, rfl, hT, hne, h2, hz, q1, q2⟩ := h
  by_cases hk2 : 2 ≤ k
  · exact op_repT pins s σ H _ _ v u Q I rx ry ⟨l, k, xs, rfl, rfl, hT, hne, by omega, by omega, hz, by simpa using q2 (by omega)⟩
  cases rx
  obtain ⟨t, rfl⟩ := ry
  obtain ⟨its, r, ⟨⟨cls, dd, data, sl⟩, ho, hc, n, hd⟩, hs⟩ := I.tuple hT
  simp only at hc hd
  subst hc hd
  have hi : its.toArray.isEmpty = false := by
    cases its with
    | nil => exact absurd (List.eq_nil_of_length_eq_zero (by simpa using r.length)) hne
    | cons a b => rfl
  refine wpAny_binaryOp_repeat_ref (T := "tuple") (U := "int") (by decide) ⟨_, ho, rfl⟩ (fun s' => typeIs_int s' k t) noFill_tuple_mul F.fills_int_mul F.slot_int_rmul repeat_tuple F.slot_int_index.lookup
    (call_meets F.slot_int_rmul (typeIs_int s k t) F.entry_int_rmul (F.args_int_rmul_2 _ _) (int_rmul_tuple k t l its.toArray n dd sl)
      ⟨ho, rfl, ⟨_, ho, rfl⟩, ?_⟩)
  obtain hk | hk : k = 0 ∨ k = 1 := by omega
  · subst hk
    refine call_meets F.slot_tuple_mul (show s.TypeIs (.ref l) "tuple" from ⟨_, ho, rfl⟩) F.entry_tuple_mul (F.args_tuple_mul_2 _ _) (tup_mul0 l its.toArray n dd sl t hi) ⟨ho, ?_⟩
    refine ⟨.ref s.heap.objs.size, _, I.laid (t' := s.toks) (o := .tup []) (fun b ob q => Heap.get?_push_of_some _ q) (Nat.le_refl _) ?_, rfl, q2 (by decide) _ (I.hok.fresh (Nat.le_refl _))⟩
    exact ⟨Nat.zero_le _, [], .nil, IsTup.new _ _⟩
  · subst hk
    exact call_meets F.slot_tuple_mul (show s.TypeIs (.ref l) "tuple" from ⟨_, ho, rfl⟩) F.entry_tuple_mul (F.args_tuple_mul_2 _ _) (tup_mul1 l its.toArray n dd sl t) ⟨ho, ⟨.ref l, H, I, rfl, q1 rfl⟩⟩
/-- sum of a tuple of ints -/
theorem call_sumT (hc : X.calm = true) : CallR X (.builtin "sum") (fun xs H Q => ∃ (a : Addr) (ns : List Int), xs = [.ref a] ∧ SqT X.K H a (ns.map V.int) ∧ Q (.int ns.sum) H) := by
  intro pins s σ H xs us Q I r h
  obtain ⟨a, ns, rfl, hT, q⟩ := h
  obtain ⟨u, rfl, rfl⟩ := vals1 r
  obtain ⟨its, rv, ht, hz⟩ := I.tuple hT
  have hi : IntsAre its ns := rv.ints
  obtain ⟨ys, e⟩ := hi.allInts.items
  have hn : numsOf (intItems ys).toList = ns := by rw [← e]; exact hi.numsOf
  rw [nums_intItems] at hn
  rw [e] at ht
  have ht' : s.heap.IsTuple a (intItems ys) := ht
  have hlt : a < s.heap.objs.size := by obtain ⟨_, z, _⟩ := ht; exact Heap.lt_size z
  refine call_sum_walkG (wpAny_pyIter_tuple ht' ?_)
  refine ⟨_, _, _, _, _, _, numAt ys, rfl, Walks.tuple (A := X.A.in1) (I.ok.hd hc) _ a (Nat.ne_of_lt hlt) (intItems ys), ⟨⟨_, Heap.get?_push_size _ rfl, rfl, rfl⟩, ht'.push _⟩, ?_, (fun _ _ => intItems_at), ?_⟩
  · intro b hb
    show b < (s.heap.push _).objs.size
    rw [Heap.size_push]
    simp only [List.mem_cons, List.not_mem_nil, or_false] at hb
    rcases hb with rfl | rfl
    · exact Nat.lt_succ_self _
    · exact Nat.lt_succ_of_lt hlt
  · intro h' tk t' hk
    have eq : preSum (numAt ys) (intItems ys).size = ns.sum := by
      rw [preSum_eq, List.take_of_length_le (by simp [intItems]), hn]
    rw [eq]
    refine ⟨.int _, H, I.kept (t' := tk) (h' := h') ?_, ⟨_, rfl⟩, q⟩
    intro b o eb
    refine hk b o (fun hm => ?_) (Heap.get?_push_of_some _ eb)
    exact absurd (Heap.lt_size eb) ((List.mem_singleton.mp hm) ▸ Nat.lt_irrefl _)
end
theorem walk_zipT {K : PySem.W.Frag} {a b : Addr} {xs ys : List V} {n : Nat} (hn : n = min xs.length ys.length) :
    Walk (RZ.ItzT K a b) n (fun H => SqT K H a xs ∧ SqT K H b ys) (YPair (fun i => xs[i]?) (fun i => ys[i]?)) := by
  subst hn
  constructor
  · rintro i H hi ⟨q1, q2⟩
    have h1 : i < xs.length := by omega
    have h2 : i < ys.length := by omega
    exact ⟨xs, ys, xs[i], ys[i], q1, q2, by simp [h1], by simp [h2]⟩
  · rintro H ⟨q1, q2⟩
    exact ⟨xs, ys, q1, q2, by omega⟩
  · rintro i H v H' _ ⟨q1, q2⟩ ⟨T, x, z, h1, h2, h3, h4, h5⟩
    exact ⟨T, x, z, h1, h2, h3, h4 xs q1, h5 ys q2⟩
end Pv

namespace Pv
open PySem PySem.Spec PyProof.Rows L2

/-! tuples never change -/
def TupK (H H' : Hp) : Prop := ∀ b xs, (H b = some (.tup xs) → H' b = some (.tup xs)) ∧ ∀ u, H b = some (.frz u (.tup xs)) → H' b = some (.frz u (.tup xs))
theorem TupK.refl (H : Hp) : TupK H H := fun _ _ => ⟨id, fun _ => id⟩
theorem TupK.trans {H H1 H2 : Hp} (a : TupK H H1) (b : TupK H1 H2) : TupK H H2 := fun c xs => ⟨fun h => (b c xs).1 ((a c xs).1 h), fun u h => (b c xs).2 u ((a c xs).2 u h)⟩
theorem TupK.rd {H H' : Hp} (s : TupK H H') {b : Addr} {xs : List V} (h : Rd H b (.tup xs)) : Rd H' b (.tup xs) := by
  rcases h with h | ⟨o, h⟩
  · exact .inl ((s _ _).1 h)
  · exact .inr ⟨o, (s _ _).2 o h⟩
theorem TupK.of {H H' : Hp} (s : Same H H') : TupK H H' := fun _ _ => ⟨fun h => s _ _ h, fun _ h => s _ _ h⟩
theorem TupK.new {H : Hp} {p : Addr} {o : HO} (np : H p = none) : TupK H (upd H p o) := .of (sameNew np)
theorem TupK.put {H : Hp} {p : Addr} {o : HO} {ys : List V} (e : H p = some (.lst ys)) : TupK H (upd H p o) := by
  intro b xs
  refine ⟨fun h => ?_, fun u h => ?_⟩
  · rw [upd_ne (ne_of h e (by intro z; cases z))]; exact h
  · rw [upd_ne (ne_of h e (by intro z; cases z))]; exact h
theorem TupK.sq {K : PySem.W.Frag} {H H' : Hp} {a : Addr} {xs : List V} (s : TupK H H') (h : SqT K H a xs) : SqT K H' a xs := by
  rcases h with h | h
  · exact .inl (s.rd h)
  · exact .inr h

mutual
def tupOnly : PyData → Bool
  | .none | .bool _ | .int _ | .str _ => true
  | .tuple xs => tupOnlyAll xs
  | .list _ | .dict _ => false
def tupOnlyAll : List PyData → Bool
  | [] => true
  | x :: xs => tupOnly x && tupOnlyAll xs
end
mutual
theorem TupK.dp {K : PySem.W.Frag} {H H' : Hp} (s : TupK H H') : ∀ (d : PyData) (v : V), tupOnly d = true → Dp K H v d → Dp K H' v d
  | .none, v, _, h => by cases h; exact .non
  | .bool b, v, _, h => by cases h; exact .bl _
  | .int b, v, _, h => by cases h; exact .int _
  | .str b, v, _, h => by cases h; exact .str _
  | .tuple xs, v, t, h => by
    cases h with
    | tup hs ha => exact .tup (s.sq hs) (TupK.dpAll s xs _ (by simpa [tupOnly] using t) ha)
  | .list _, v, t, _ => by simp [tupOnly] at t
  | .dict _, v, t, _ => by simp [tupOnly] at t
theorem TupK.dpAll {K : PySem.W.Frag} {H H' : Hp} (s : TupK H H') : ∀ (ds : List PyData) (vs : List V), tupOnlyAll ds = true → DpAll K H vs ds → DpAll K H' vs ds
  | [], vs, _, h => by cases h; exact .nil
  | d :: ds, vs, t, h => by
    have t' : tupOnly d = true ∧ tupOnlyAll ds = true := by simpa [tupOnlyAll] using t
    cases h with
    | cons h1 h2 => exact .cons (TupK.dp s d _ t'.1 h1) (TupK.dpAll s ds _ t'.2 h2)
end
theorem tupOnlyAll_of {ds : List PyData} (h : ∀ d ∈ ds, tupOnly d = true) : tupOnlyAll ds = true := by
  induction ds with
  | nil => simp [tupOnlyAll]
  | cons d ds ih => simp [tupOnlyAll, h d (by simp), ih (fun e he => h e (by simp [he]))]

/-! data -/
abbrev Gp := List Int × Int
def dI (ns : List Int) : PyData := .tuple (ns.map .int)
def dGrp (g : Gp) : PyData := .tuple [dI g.1, .int g.2]
def dInst (cs : List Int) (gs : List Gp) : PyData := .tuple [dI cs, .tuple (gs.map dGrp)]
def dAsg (rows : List (List Int)) : PyData := .tuple (rows.map dI)
theorem to_ints (ns : List Int) : tupOnlyAll (ns.map PyData.int) = true := tupOnlyAll_of (by intro d hd; obtain ⟨n, _, rfl⟩ := List.mem_map.mp hd; simp [tupOnly])
theorem to_dI (ns : List Int) : tupOnly (dI ns) = true := by simp [dI, tupOnly, to_ints]
theorem to_dGrp (g : Gp) : tupOnly (dGrp g) = true := by simp [dGrp, tupOnly, tupOnlyAll, to_dI]
theorem to_grps (gs : List Gp) : tupOnlyAll (gs.map dGrp) = true := tupOnlyAll_of (by intro d hd; obtain ⟨n, _, rfl⟩ := List.mem_map.mp hd; exact to_dGrp n)
theorem to_rows (rs : List (List Int)) : tupOnlyAll (rs.map dI) = true := tupOnlyAll_of (by intro d hd; obtain ⟨n, _, rfl⟩ := List.mem_map.mp hd; exact to_dI n)
theorem to_dInst (cs : List Int) (gs : List Gp) : tupOnly (dInst cs gs) = true := by simp [dInst, tupOnly, tupOnlyAll, to_dI, to_grps]
theorem to_dAsg (rs : List (List Int)) : tupOnly (dAsg rs) = true := by simp [dAsg, tupOnly, to_rows]

section
variable {K : PySem.W.Frag} {H : Hp}
theorem DpAll.len : ∀ {vs : List V} {ds : List PyData}, DpAll K H vs ds → vs.length = ds.length
  | _, _, .nil => rfl
  | _, _, .cons _ t => by simp [DpAll.len t]
theorem DpAll.ints : ∀ {ns : List Int} {vs : List V}, DpAll K H vs (ns.map PyData.int) → vs = ns.map V.int
  | [], _, h => by cases h; rfl
  | n :: ns, _, h => by
    cases h with
    | cons h1 h2 => cases h1; rw [DpAll.ints h2]; rfl
theorem dp_ints : ∀ (ns : List Int), DpAll K H (ns.map V.int) (ns.map PyData.int)
  | [] => .nil
  | n :: ns => .cons (.int n) (dp_ints ns)
theorem DpAll.at : ∀ {vs : List V} {ds : List PyData} {i : Nat} {v : V}, DpAll K H vs ds → vs[i]? = some v → ∃ d, ds[i]? = some d ∧ Dp K H v d
  | _, _, _, _, .nil, e => by simp at e
  | _, _, 0, _, .cons h _, e => by simp at e; subst e; exact ⟨_, rfl, h⟩
  | _, _, i + 1, v, .cons _ t, e => by
    obtain ⟨d, h1, h2⟩ := DpAll.at (i := i) t (by simpa using e)
    exact ⟨d, by simpa using h1, h2⟩
theorem DpAll.snoc : ∀ {vs : List V} {ds : List PyData} {v : V} {d : PyData}, DpAll K H vs ds → Dp K H v d → DpAll K H (vs ++ [v]) (ds ++ [d])
  | _, _, _, _, .nil, h => .cons h .nil
  | _, _, _, _, .cons h t, h' => .cons h (DpAll.snoc t h')
theorem sq_dI {a : Addr} {ns : List Int} (h : Dp K H (.ref a) (dI ns)) : SqT K H a (ns.map V.int) := by
  cases h with
  | tup hs ha => rw [DpAll.ints ha] at hs; exact hs
theorem dI_sq {a : Addr} {ns : List Int} (h : SqT K H a (ns.map V.int)) : Dp K H (.ref a) (dI ns) := .tup h (dp_ints ns)
theorem dI_ref {v : V} {ns : List Int} (h : Dp K H v (dI ns)) : ∃ a, v = .ref a ∧ SqT K H a (ns.map V.int) := by
  cases h with
  | tup hs ha => rw [DpAll.ints ha] at hs; exact ⟨_, rfl, hs⟩
theorem grp_ref {v : V} {g : Gp} (h : Dp K H v (dGrp g)) : ∃ a p, v = .ref a ∧ SqT K H a [.ref p, .int g.2] ∧ SqT K H p (g.1.map V.int) := by
  cases h with
  | tup hs ha =>
    cases ha with
    | cons h1 h2 =>
      cases h2 with
      | cons h3 h4 =>
        cases h4
        cases h3
        obtain ⟨p, rfl, hp⟩ := dI_ref h1
        exact ⟨_, p, rfl, hs, hp⟩
theorem inst_open {v : V} {cs : List Int} {gs : List Gp} (h : Dp K H v (dInst cs gs)) :
    ∃ a c g xs, v = .ref a ∧ SqT K H a [.ref c, .ref g] ∧ SqT K H c (cs.map V.int) ∧ SqT K H g xs ∧ DpAll K H xs (gs.map dGrp) := by
  cases h with
  | tup hs ha =>
    cases ha with
    | cons h1 h2 =>
      cases h2 with
      | cons h3 h4 =>
        cases h4
        obtain ⟨c, rfl, hc⟩ := dI_ref h1
        cases h3 with
        | tup hg hx => exact ⟨_, c, _, _, rfl, hs, hc, hg, hx⟩
theorem asg_open {v : V} {rs : List (List Int)} (h : Dp K H v (dAsg rs)) : ∃ a xs, v = .ref a ∧ SqT K H a xs ∧ DpAll K H xs (rs.map dI) := by
  cases h with
  | tup hg hx => exact ⟨_, _, rfl, hg, hx⟩
end

/-! what repr wants of data -/
structure Fine (k B : Nat) (d : PyData) : Prop where
  sh : d.showable = true
  nd : d.hasDict = false
  dp : d.depth ≤ k
  ln : d.shown.length ≤ B
theorem Fine.mono {k k' B B' : Nat} {d : PyData} (h : Fine k B d) (hk : k ≤ k') (hB : B ≤ B') : Fine k' B' d := ⟨h.sh, h.nd, Nat.le_trans h.dp hk, Nat.le_trans h.ln hB⟩
theorem fine_int {i : Int} (h : i.natAbs < 10 ^ 20) : Fine 0 25 (.int i) := by
  refine ⟨?_, by simp [PyData.hasDict], by simp [PyData.depth], ?_⟩
  · simp only [PyData.showable, decide_eq_true_eq]
    have : i.natAbs.log2 < 100 := by
      by_cases h0 : i.natAbs = 0
      · rw [h0]; decide
      · exact (Nat.log2_lt h0).mpr (Nat.lt_trans h (by decide))
    omega
  · have e := int_text_length_le10 (k := 20) (by decide) h
    show (Str.ofString (toString i)).length ≤ 25
    rw [PySem.ofString_length]
    omega
theorem fine_all {k B : Nat} : ∀ {xs : List PyData}, (∀ x ∈ xs, Fine k B x) → PyData.showableAll xs = true ∧ PyData.hasDictAll xs = false ∧ PyData.depthAll xs ≤ k ∧ ((PyData.shownAll xs).map (·.length)).sum ≤ xs.length * B ∧ (PyData.shownAll xs).length = xs.length
  | [], _ => by simp [PyData.showableAll, PyData.hasDictAll, PyData.depthAll, PyData.shownAll]
  | x :: xs, h => by
    obtain ⟨h1, h2, h3, h4, h5⟩ := fine_all (xs := xs) (fun y hy => h y (by simp [hy]))
    have hx := h x (by simp)
    refine ⟨by simp [PyData.showableAll, hx.sh, h1], by simp [PyData.hasDictAll, hx.nd, h2], ?_, ?_, ?_⟩
    · simp only [PyData.depthAll]; have := hx.dp; omega
    · simp only [PyData.shownAll, List.map_cons, List.sum_cons, List.length_cons]; have := hx.ln; rw [Nat.succ_mul]; omega
    · simp [PyData.shownAll, h5]
theorem fine_tup {k B n : Nat} {xs : List PyData} (h : ∀ x ∈ xs, Fine k B x) (hn : xs.length ≤ n) : Fine (k + 1) (n * (B + 2) + 3) (.tuple xs) := by
  obtain ⟨h1, h2, h3, h4, h5⟩ := fine_all h
  refine ⟨by simp only [PyData.showable]; exact h1, by simp only [PyData.hasDict]; exact h2, by simp only [PyData.depth]; omega, ?_⟩
  simp only [PyData.shown]
  have e := tupleText_len_le (PyData.shownAll xs)
  rw [h5] at e
  have m : xs.length * (B + 2) ≤ n * (B + 2) := Nat.mul_le_mul_right _ hn
  rw [Nat.mul_add] at m
  omega
theorem fine_lst {k B n : Nat} {xs : List PyData} (h : ∀ x ∈ xs, Fine k B x) (hn : xs.length ≤ n) : Fine (k + 1) (n * (B + 2) + 3) (.list xs) := by
  obtain ⟨h1, h2, h3, h4, h5⟩ := fine_all h
  refine ⟨by simp only [PyData.showable]; exact h1, by simp only [PyData.hasDict]; exact h2, by simp only [PyData.depth]; omega, ?_⟩
  simp only [PyData.shown]
  have e := listText_len_le (PyData.shownAll xs)
  rw [h5] at e
  have m : xs.length * (B + 2) ≤ n * (B + 2) := Nat.mul_le_mul_right _ hn
  rw [Nat.mul_add] at m
  omega
theorem fine_dI {ns : List Int} {n : Nat} (h : ∀ i ∈ ns, i.natAbs < 10 ^ 20) (hn : ns.length ≤ n) : Fine 1 (n * 27 + 3) (dI ns) := by
  refine fine_tup (B := 25) ?_ (by simpa using hn)
  intro d hd
  obtain ⟨i, hi, rfl⟩ := List.mem_map.mp hd
  exact fine_int (h i hi)

/-! the drawing state of the law: a list of the cells, the rests and the turn -/
structure DS (H : Hp) (st c r : Addr) (t : Nat) : Prop where
  hs : H st = some (.lst [.ref c, .ref r, .int t])
  ex : ∃ cells rests : List Int, H c = some (.lst (cells.map V.int)) ∧ H r = some (.lst (rests.map V.int)) ∧ cells.length = rests.length ∧
    0 < cells.length ∧ cells.length ≤ 100 ∧ ∀ x ∈ rests, 0 ≤ x
  n1 : c ≠ r
  n2 : st ≠ c
  n3 : st ≠ r
def Ext (st r : Addr) (H H' : Hp) : Prop := ∀ b o, H b = some o → b ≠ st → b ≠ r → H' b = some o
section
variable {H H1 H2 : Hp} {st c r p : Addr} {t : Nat} {o : HO}
theorem Ext.trans (a : Ext st r H H1) (b : Ext st r H1 H2) : Ext st r H H2 := fun x o h n1 n2 => b x o (a x o h n1 n2) n1 n2
theorem Ext.of (s : Same H H1) : Ext st r H H1 := fun b o h _ _ => s b o h
theorem Ext.tup (d : DS H st c r t) (e : Ext st r H H1) : TupK H H1 := by
  obtain ⟨cells, rests, hc, hr, _⟩ := d.ex
  intro b xs
  refine ⟨fun h => ?_, fun u h => ?_⟩
  · exact e _ _ h (ne_of h d.hs (by intro z; cases z)) (ne_of h hr (by intro z; cases z))
  · exact e _ _ h (ne_of h d.hs (by intro z; cases z)) (ne_of h hr (by intro z; cases z))
theorem DS.same (d : DS H st c r t) (s : Same H H1) : DS H1 st c r t := by
  obtain ⟨cells, rests, hc, hr, q⟩ := d.ex
  exact ⟨s _ _ d.hs, ⟨cells, rests, s _ _ hc, s _ _ hr, q⟩, d.n1, d.n2, d.n3⟩
theorem DS.new (d : DS H st c r t) (np : H p = none) : DS (upd H p o) st c r t := d.same (sameNew np)
theorem DS.put (d : DS H st c r t) (h1 : p ≠ st) (h2 : p ≠ c) (h3 : p ≠ r) : DS (upd H p o) st c r t := by
  obtain ⟨cells, rests, hc, hr, q⟩ := d.ex
  exact ⟨by rw [upd_ne h1.symm]; exact d.hs, ⟨cells, rests, by rw [upd_ne h2.symm]; exact hc, by rw [upd_ne h3.symm]; exact hr, q⟩, d.n1, d.n2, d.n3⟩
/-- an address that was free while the state stood is none of its own -/
theorem DS.off (d : DS H st c r t) (np : H p = none) : p ≠ st ∧ p ≠ c ∧ p ≠ r := by
  obtain ⟨cells, rests, hc, hr, q⟩ := d.ex
  exact ⟨(ne_of_none d.hs np).symm, (ne_of_none hc np).symm, (ne_of_none hr np).symm⟩
end
end Pv

namespace Pv
open PySem PySem.Spec PyProof.Rows L2
/-! enumerate of a tuple -/
theorem enumT_new (l : Addr) (items : Array Value) (n : Nat) (dct : Option Addr) (sl : Array (Option Value)) :
    Meets (Builtin.«enumerate.__new__» ⟨[.type "enumerate", .ref l], []⟩) (fun _ R s =>
      s.heap.get? l = some { cls := .type "tuple", dict := dct, data := .seq items n, slots := sl } ∧
      R (.ok (.ret (.ref (s.heap.push { cls := .type "tuple_iterator", data := .fields #[.ref l, .int 0 0] }).objs.size)))
        { s with heap := Heap.push (s.heap.push { cls := .type "tuple_iterator", data := .fields #[.ref l, .int 0 0] }) { cls := .type "enumerate", data := .fields #[.none, .bool false, .ref s.heap.objs.size, rawInt 0, .none, .none] } }) :=
  .of_wp fun prog w A R s h => by
    obtain ⟨hp, g, d, tk, os⟩ := s
    obtain ⟨hl, h⟩ := h
    have hsub := sub_enumerate
    have hL : Heap.IsTuple (Shared.heap ⟨hp, g, d, tk, os⟩) l items := ⟨_, hl, rfl, n, rfl⟩
    wp_walk using AutoSeq1.wpAny_loadPart' hl
    refine wpAny_stack_any fun st => wpAny_pure ?_
    split
    · rename_i c _ _ _ _ _
      cases (c == Value.type "enumerate") <;>
        (wp_walk using AutoSeq1.wpAny_loadPart' hl, wpAny_pyIter_tuple hL; exact ⟨_, rfl, h⟩)
    · wp_walk using AutoSeq1.wpAny_loadPart' hl, wpAny_pyIter_tuple hL
      exact ⟨_, rfl, h⟩
theorem call_enumT {prog : Program} {w : World} {A : Around} {E : Value → Shared → Prop} {s : Shared} {l : Addr} {items : Array Value} {Q : Value → Shared → Prop} (hL : s.heap.IsTuple l items)
    (h : ∀ h', IsEnum h' (s.heap.objs.size + 1) s.heap.objs.size 0 .none → h'.IsTupleIter s.heap.objs.size l 0 →
      (∀ b o, s.heap.get? b = some o → h'.get? b = some o) → Q (.ref (s.heap.objs.size + 1)) { s with heap := h' }) :
    wpAny (model prog w) A (call (.type "enumerate") [.ref l]) Q E s := by
  obtain ⟨⟨c, dct, dt, sl⟩, hl, hc, n, hd⟩ := hL
  simp only at hc hd
  subst hc hd
  refine callType_new F.called_enumerate (by decide) (F.typeCall_enumerate_1 _) (F.newCall_enumerate_1 _) (fun obj => F.args_object_init_2 obj _) F.entry_enumerate_new (enumT_new l items n dct sl) ⟨hl, ?_⟩
  have hz : (s.heap.push { cls := .type "tuple_iterator", data := .fields #[.ref l, .int 0 0] }).objs.size = s.heap.objs.size + 1 := Heap.size_push ..
  show _ ∧ _
  rw [hz]
  have ge : IsEnum (Heap.push (s.heap.push { cls := .type "tuple_iterator", data := .fields #[.ref l, .int 0 0] }) { cls := .type "enumerate", data := .fields #[.none, .bool false, .ref s.heap.objs.size, rawInt 0, .none, .none] }) (s.heap.objs.size + 1) s.heap.objs.size 0 .none := by
    rw [← hz]
    exact Heap.get?_push_size _ rfl
  exact ⟨⟨_, ge, rfl⟩, h _ ge ⟨_, Heap.get?_push_of_some _ (Heap.get?_push_size _ rfl), rfl, rfl⟩ fun b o x => Heap.get?_push_of_some _ (Heap.get?_push_of_some _ x)⟩
def IteT (K : PySem.W.Frag) (a : Addr) : It :=
  ⟨fun i H => ∃ (xs : List V) (x : V), SqT K H a xs ∧ xs[i]? = some x,
   fun i H v H' => ∃ T x, v = .ref T ∧ H T = none ∧ H' = upd H T (.tup [.int (i : Nat), x]) ∧ ∀ xs, SqT K H a xs → xs[i]? = some x,
   fun i H => ∃ xs : List V, SqT K H a xs ∧ xs.length = i⟩
theorem tupLt {h : Heap} {a : Addr} {its : Array Value} (p : IsTup h a its) : a < h.objs.size := by obtain ⟨_, e, _⟩ := p; exact Heap.lt_size e
theorem turn_enumT {P : Program} {w : World} {K : PySem.W.Frag} {elts : List Expr} {kk : Nat} {tpos : Pos} (a e it : Addr) :
    Turn P w K (.Tuple elts kk tpos) (IteT K a) [e, it] e (fun i h => (∃ old, IsEnum h e it ((i : Nat) : Int) old) ∧ h.IsTupleIter it a i ∧ e ≠ it) where
  mem := by simp
  obj := by
    rintro i h ⟨⟨old, he⟩, ⟨o, ho, hc, hd⟩, _⟩ b hb
    simp only [List.mem_cons, List.not_mem_nil, or_false] at hb
    rcases hb with rfl | rfl
    · exact ⟨_, he, fun v q => nomatch q⟩
    · exact ⟨o, ho, fun v q => by rw [hd] at q; cases q⟩
  keep := by
    rintro i h h' ⟨⟨old, he⟩, hi, hne⟩ k
    exact ⟨⟨old, k e (by simp) _ he⟩, hi.at fun o q => k it (by simp) o q, hne⟩
  item := by
    intro X hP hw hK hc i pins s σ H E I hf st hg
    subst hP hw hK
    obtain ⟨⟨old, he⟩, hit, hne⟩ := st
    obtain ⟨xs, x, hq, hx⟩ := hg
    obtain ⟨its, rv, p, hz⟩ := I.tuple hq
    obtain ⟨u, hu, ru⟩ := rv.get hx
    have hel : e < s.heap.objs.size := Heap.lt_size he
    have hil : it < s.heap.objs.size := by obtain ⟨_, q, _⟩ := hit; exact Heap.lt_size q
    have nea : e ≠ a := by
      rintro rfl
      obtain ⟨o, ho, hcl, _⟩ := p
      rw [he] at ho
      cases ho
      injection hcl with hcl
      exact absurd hcl (by decide)
    have nia : a ≠ it := by
      rintro rfl
      obtain ⟨o, ho, hcl, _⟩ := p
      obtain ⟨o2, ho2, hcl2, _⟩ := hit
      rw [ho] at ho2
      cases ho2
      rw [hcl] at hcl2
      injection hcl2 with hcl2
      exact absurd hcl2 (by decide)
    have hlt : i < its.toArray.size := by have := (List.getElem?_eq_some_iff.mp hu).1; simpa using this
    refine wpAny_pyNext_enum_itemD (Draws.tuple (A := X.A.in1) (I.ok.hd hc) it a nia its.toArray) he ⟨hit, p⟩ hlt hne (by simp [hne, nea]) ?_
    intro u' h' tk hu' ho st' hT hsz hk
    have hu2 : its.toArray[i]? = some u' := hu'
    have : u' = u := by
      have h3 : its.toArray[i]? = some u := by simpa using hu
      rw [h3] at hu2
      exact (Option.some.inj hu2).symm
    subst this
    refine ⟨_, rfl, wpAny_letOwnedTupleGo_enum (s := { s with heap := h', toks := tk + 1 }) ho fun h'' he' sb => ?_⟩
    have hT2 : h''.get? s.heap.objs.size = some { cls := .type "tuple", data := .seq #[.int i tk, u'] } := (sb.2 _ (Nat.ne_of_gt hel)).trans hT
    have new : ObjOk X.prog X.w (upd H s.heap.objs.size (.tup [.int (i : Nat), x])) h'' s.heap.objs.size (.tup [.int (i : Nat), x]) :=
      ⟨by show 2 ≤ sizeLine; decide, [.int i tk, u'], .cons ⟨_, rfl⟩ (.cons ru .nil), ⟨_, hT2, rfl, _, rfl⟩⟩
    have kk : ∀ b ob, b ∉ [e, it] → s.heap.get? b = some ob → h''.get? b = some ob := by
      intro b ob hb q
      have h1 : b ≠ e := fun z => hb (by simp [z])
      have h2 : b ≠ it := fun z => hb (by simp [z])
      exact (sb.2 b h1).trans (hk b ob h1 h2 q)
    have I1 : Inv X pins σ (upd H s.heap.objs.size (.tup [.int (i : Nat), x])) { s with heap := h'', toks := tk + 1 } :=
      I.turnedNew (ch := [e, it]) kk hf (Nat.le_refl _) new
    refine ⟨.ref s.heap.objs.size, _, I1, rfl, ⟨_, x, rfl, I.hok.fresh (Nat.le_refl _), rfl, fun ys hy => by rw [I.tuple_inj hy hq]; exact hx⟩, ⟨⟨u', ?_⟩, st'.1.at fun o q => (sb.2 it (Ne.symm hne)).trans q, hne⟩, fun b hb => ?_⟩
    · rw [show ((i + 1 : Nat) : Int) = (i : Int) + 1 by omega]; exact he'
    · have hb' : b < s.heap.objs.size := by
        simp only [List.mem_cons, List.not_mem_nil, or_false] at hb
        rcases hb with rfl | rfl <;> assumption
      rw [upd_ne (Nat.ne_of_lt hb')]
      exact (hf b hb).1
  done := by
    intro X hP hw hK hc i pins s σ H E I hf st hg
    subst hP hw hK
    obtain ⟨⟨old, he⟩, hit, hne⟩ := st
    obtain ⟨xs, hq, hx⟩ := hg
    obtain ⟨its, rv, p, hz⟩ := I.tuple hq
    obtain ⟨f0, f1, f2, f3, f4, f5⟩ := hf it (by simp)
    have hl := rv.length
    have nia : a ≠ it := by
      rintro rfl
      obtain ⟨o, ho, hcl, _⟩ := p
      obtain ⟨o2, ho2, hcl2, _⟩ := hit
      rw [ho] at ho2
      cases ho2
      rw [hcl] at hcl2
      injection hcl2 with hcl2
      exact absurd hcl2 (by decide)
    have hi : i = its.toArray.size := by rw [List.size_toArray]; omega
    refine wpAny_pyNext_enum_endD (Draws.tuple (A := X.A.in1) (I.ok.hd hc) it a nia its.toArray) he (by rw [← hi]; exact ⟨hit, p⟩) fun h' eb => ⟨rfl, I.turned (t' := s.toks) (fun b o hb q => eb b o hb q) f0 f1 f3 f4 f5⟩
  self := by
    rintro A i s Q E ⟨⟨_, he⟩, _⟩ h
    exact wpAny_pyIter_enum he h
def iEnumT (K : PySem.W.Frag) (ta : TA) : TI := fun σ H R => ta σ H fun vs H1 => ∃ a xs, vs = [.ref a] ∧ SqT K H1 a xs ∧ R (IteT K a) H1
theorem pi_enumT {X : Cx} {e : Expr} {ta : TA} {p pos tpos : Pos} {elts : List Expr} {kk : Nat} (hg : Gl X "enumerate") (hm : X.mg "enumerate" = none) (ha : PA X [e] ta)
    (hs : starEach [e] X.env = [(false, eval e X.env)] := by rfl) : PI X (.Tuple elts kk tpos) (.Call (.Name "enumerate" p) [e] [] pos) (iEnumT X.K ta) := by
  constructor
  intro pins s σ H R I h
  refine Call_ (ld_blt I hg hm boot_enumerate (PyProof.Rows.callWith_type1 (thn (ha.run pos pins s σ H _ I h) ?_) hs rfl))
  rintro us s1 ⟨vs, H1, I1, r1, a, xs, rfl, hq, q⟩
  obtain ⟨u, rfl, rfl⟩ := vals1 r1
  obtain ⟨its, rv, p', hz⟩ := I1.tuple hq
  refine call_enumT (show s1.heap.IsTuple a its.toArray from p') fun h' he hit hk => wpAny_pyIter_enum he ?_
  have I2 : Inv X pins σ H1 { s1 with heap := h' } := I1.kept (t' := s1.toks) hk
  refine ⟨s1.heap.objs.size + 1, [s1.heap.objs.size + 1, s1.heap.objs.size], _, _, H1, rfl, I2, turn_enumT a (s1.heap.objs.size + 1) s1.heap.objs.size, ⟨⟨.none, he⟩, hit, Nat.succ_ne_self _⟩, ?_, q⟩
  intro b hb
  have hle : s1.heap.objs.size ≤ b := by
    simp only [List.mem_cons, List.not_mem_nil, or_false] at hb
    rcases hb with rfl | rfl <;> omega
  exact I1.fpOk hle (I1.hok.fresh hle)
theorem walk_enumT {K : PySem.W.Frag} {a : Addr} {xs : List V} : Walk (IteT K a) xs.length (fun H => SqT K H a xs) (YPair (fun i => some (.int (i : Nat))) (fun i => xs[i]?)) := by
  constructor
  · intro i H hi q
    exact ⟨xs, xs[i], q, by simp [hi]⟩
  · intro H q
    exact ⟨xs, q, rfl⟩
  · rintro i H v H' _ q ⟨T, x, h1, h2, h3, h4⟩
    exact ⟨T, _, x, h1, h2, h3, rfl, h4 xs q⟩
/-! zip of a list and a tuple -/
abbrev zm1 (h : Heap) (l1 : Addr) : Heap := h.push { cls := .type "list_iterator", data := .fields #[.ref l1, .int 0 0] }
abbrev zm2 (h : Heap) (l1 l2 : Addr) : Heap := (zm1 h l1).push { cls := .type "tuple_iterator", data := .fields #[.ref l2, .int 0 0] }
abbrev zm3 (h : Heap) (l1 l2 : Addr) : Heap := (zm2 h l1 l2).push { cls := .type "tuple", data := .seq #[.ref h.objs.size, .ref (zm1 h l1).objs.size] }
abbrev zm4 (h : Heap) (l1 l2 : Addr) : Heap := (zm3 h l1 l2).push { cls := .type "tuple", data := .seq #[.none, .none] }
abbrev zm5 (h : Heap) (l1 l2 : Addr) : Heap := (zm4 h l1 l2).push { cls := .type "zip", data := .fields #[.none, .bool false, .bool false, .ref (zm2 h l1 l2).objs.size, .ref (zm3 h l1 l2).objs.size] }
theorem zipM_new (l1 l2 : Addr) (xs ys : Array Value) :
    Meets (Builtin.«zip.__new__» ⟨[.type "zip", .ref l1, .ref l2], []⟩) (fun _ R s => s.heap.IsList l1 xs ∧ s.heap.IsTuple l2 ys ∧
      R (.ok (.ret (.ref (zm4 s.heap l1 l2).objs.size))) { s with heap := zm5 s.heap l1 l2 }) :=
  .of_wp fun prog w A R s h => by
    obtain ⟨hp, g, d, tk, os⟩ := s
    obtain ⟨hl1, hl2, h⟩ := h
    have hsub := sub_zip
    have hL1 : Heap.IsList (Shared.heap ⟨hp, g, d, tk, os⟩) l1 xs := hl1
    have hL2 : Heap.IsTuple (Shared.heap ⟨zm1 hp l1, g, d, tk, os⟩) l2 ys := Heap.IsTuple.push hl2 _
    wp_walk using wpAny_pyIter_list hL1, wpAny_pyIter_tuple hL2
    exact ⟨_, rfl, h⟩
theorem call_zipM {prog : Program} {w : World} {A : Around} {E : Value → Shared → Prop} {s : Shared} {l1 l2 : Addr} {xs ys : Array Value} {Q : Value → Shared → Prop} (hl1 : s.heap.IsList l1 xs) (hl2 : s.heap.IsTuple l2 ys)
    (h : ∀ h', IsZip h' (s.heap.objs.size + 4) (s.heap.objs.size + 2) (s.heap.objs.size + 3) .none → IsPair h' (s.heap.objs.size + 2) (.ref s.heap.objs.size) (.ref (s.heap.objs.size + 1)) →
      IsPair h' (s.heap.objs.size + 3) .none .none → h'.IsListIter s.heap.objs.size l1 0 → h'.IsTupleIter (s.heap.objs.size + 1) l2 0 →
      (∀ c o, s.heap.get? c = some o → h'.get? c = some o) → Q (.ref (s.heap.objs.size + 4)) { s with heap := h' }) :
    wpAny (model prog w) A (call (.type "zip") [.ref l1, .ref l2]) Q E s := by
  refine callType_new F.called_zip (by decide) (F.typeCall_zip_2 _ _) (F.newCall_zip_2 _ _) (fun obj => F.args_object_init_3 obj _ _) F.entry_zip_new (zipM_new l1 l2 xs ys) ⟨hl1, hl2, ?_⟩
  have z1 : (zm1 s.heap l1).objs.size = s.heap.objs.size + 1 := Heap.size_push ..
  have z2 : (zm2 s.heap l1 l2).objs.size = s.heap.objs.size + 2 := by rw [Heap.size_push, z1]
  have z3 : (zm3 s.heap l1 l2).objs.size = s.heap.objs.size + 3 := by rw [Heap.size_push, z2]
  have z4 : (zm4 s.heap l1 l2).objs.size = s.heap.objs.size + 4 := by rw [Heap.size_push, z3]
  have g5 : (zm5 s.heap l1 l2).get? (zm4 s.heap l1 l2).objs.size = some _ := Heap.get?_push_size _ rfl
  have g4 : (zm5 s.heap l1 l2).get? (zm3 s.heap l1 l2).objs.size = some _ := Heap.get?_push_of_some _ (Heap.get?_push_size _ rfl)
  have g3 : (zm5 s.heap l1 l2).get? (zm2 s.heap l1 l2).objs.size = some _ := Heap.get?_push_of_some _ (Heap.get?_push_of_some _ (Heap.get?_push_size _ rfl))
  have g2 : (zm5 s.heap l1 l2).get? (zm1 s.heap l1).objs.size = some _ := Heap.get?_push_of_some _ (Heap.get?_push_of_some _ (Heap.get?_push_of_some _ (Heap.get?_push_size _ rfl)))
  have g1 : (zm5 s.heap l1 l2).get? s.heap.objs.size = some _ := Heap.get?_push_of_some _ (Heap.get?_push_of_some _ (Heap.get?_push_of_some _ (Heap.get?_push_of_some _ (Heap.get?_push_size _ rfl))))
  show _ ∧ _
  rw [z2, z3, z4] at g5
  rw [z1, z2] at g3
  rw [z3] at g4
  rw [z1] at g2
  rw [z4]
  refine ⟨⟨_, g5, rfl⟩, h _ g5 g3 g4 ⟨_, g1, rfl, rfl⟩ ⟨_, g2, rfl, rfl⟩ ?_⟩
  intro c o x
  exact Heap.get?_push_of_some _ (Heap.get?_push_of_some _ (Heap.get?_push_of_some _ (Heap.get?_push_of_some _ (Heap.get?_push_of_some _ x))))
def ItzM (K : PySem.W.Frag) (a b : Addr) : It :=
  ⟨fun i H => ∃ (xs ys : List V) (x y : V), SqL K H a xs ∧ SqT K H b ys ∧ xs[i]? = some x ∧ ys[i]? = some y,
   fun i H v H' => ∃ T x y, v = .ref T ∧ H T = none ∧ H' = upd H T (.tup [x, y]) ∧ (∀ xs, SqL K H a xs → xs[i]? = some x) ∧ ∀ ys, SqT K H b ys → ys[i]? = some y,
   fun i H => ∃ xs ys : List V, SqL K H a xs ∧ SqT K H b ys ∧ min xs.length ys.length = i⟩
theorem sepM {z TI TO i1 i2 a b : Addr} (D : ZipApart z TI TO i1 i2 a b) : ZipSep2 z TI TO i1 i2 [i1, a] [i2, b] := by
  refine ⟨D.TIz, D.TOz, D.TITO, D.TIi1, by simp, ?_, ?_, D.TIi2, by simp, ?_, ?_, ?_, ?_⟩ <;>
    simp only [List.mem_cons, List.not_mem_nil, or_false, not_or]
  · exact ⟨D.i1z.symm, D.l1z.symm⟩
  · exact ⟨D.TOi1, D.l1TO.symm⟩
  · exact ⟨D.i2z.symm, D.l2z.symm⟩
  · exact ⟨D.TOi2, D.l2TO.symm⟩
  · exact ⟨D.i12, D.l2i1.symm⟩
  · exact ⟨D.i12.symm, D.l1i2.symm⟩
theorem turn_zipM {P : Program} {w : World} {K : PySem.W.Frag} {elts : List Expr} {kk : Nat} {tpos : Pos} {a b z TI TO i1 i2 : Addr} (D : ZipApart z TI TO i1 i2 a b) :
    Turn P w K (.Tuple elts kk tpos) (ItzM K a b) [z, TI, TO, i1, i2] z
      (fun i h => IsZip h z TI TO .none ∧ IsPair h TI (.ref i1) (.ref i2) ∧ (∃ x y, IsPair h TO x y) ∧ h.IsListIter i1 a i ∧ h.IsTupleIter i2 b i) where
  mem := by simp
  obj := by
    rintro i h ⟨hz, hTI, ⟨x, y, hTO⟩, ⟨o1, e1, _, d1⟩, ⟨o2, e2, _, d2⟩⟩ c hc
    simp only [List.mem_cons, List.not_mem_nil, or_false] at hc
    rcases hc with rfl | rfl | rfl | rfl | rfl
    · exact ⟨_, hz, fun v q => nomatch q⟩
    · exact ⟨_, hTI, fun v q => nomatch q⟩
    · exact ⟨_, hTO, fun v q => nomatch q⟩
    · exact ⟨o1, e1, fun v q => by rw [d1] at q; cases q⟩
    · exact ⟨o2, e2, fun v q => by rw [d2] at q; cases q⟩
  keep := by
    rintro i h h' ⟨hz, hTI, ⟨x, y, hTO⟩, h1, h2⟩ k
    exact ⟨k z (by simp) _ hz, k TI (by simp) _ hTI, ⟨x, y, k TO (by simp) _ hTO⟩, h1.at fun o q => k i1 (by simp) o q, h2.at fun o q => k i2 (by simp) o q⟩
  item := by
    intro X hP hw hK hc i pins s σ H E I hf st hg
    subst hP hw hK
    obtain ⟨hz, hTI, ⟨x0, y0, hTO⟩, h1, h2⟩ := st
    obtain ⟨xs, ys, x, y, hqx, hqy, hx, hy⟩ := hg
    obtain ⟨its, rv, p, _⟩ := I.list hqx
    obtain ⟨its2, rv2, p2, _⟩ := I.tuple hqy
    obtain ⟨u, hu, ru⟩ := rv.get hx
    obtain ⟨u2, hu2, ru2⟩ := rv2.get hy
    have hzl : z < s.heap.objs.size := Heap.lt_size hz
    have hl1 : i < its.toArray.size := by have := (List.getElem?_eq_some_iff.mp hu).1; simpa using this
    have hl2 : i < its2.toArray.size := by have := (List.getElem?_eq_some_iff.mp hu2).1; simpa using this
    refine wpAny_pyNext_zipD2_item (sepM D) (Draws.list (A := X.A.in1) (I.ok.hd hc) i1 a D.l1i1 its.toArray) (Draws.tuple (A := X.A.in1) (I.ok.hd hc) i2 b D.l2i2 its2.toArray) hz hTI hTO ⟨h1, p.isList⟩ ⟨h2, p2⟩ hl1 hl2 ?_
    intro v1 v2 h' tk hv1 hv2 z' TO' st1 st2 hT hsz hk
    have e1 : v1 = u := by
      have h3 : its.toArray[i]? = some u := by simpa using hu
      rw [show its.toArray[i]? = some v1 from hv1] at h3
      exact Option.some.inj h3
    have e2 : v2 = u2 := by
      have h3 : its2.toArray[i]? = some u2 := by simpa using hu2
      rw [show its2.toArray[i]? = some v2 from hv2] at h3
      exact Option.some.inj h3
    subst e1 e2
    refine ⟨_, rfl, wpAny_letOwnedTupleGo_zip (s := { s with heap := h', toks := tk }) z' fun h'' z'' sb => ?_⟩
    have hT2 : h''.get? s.heap.objs.size = some { cls := .type "tuple", data := .seq #[v1, v2] } := (sb.2 _ (Nat.ne_of_gt hzl)).trans hT
    have new : ObjOk X.prog X.w (upd H s.heap.objs.size (.tup [x, y])) h'' s.heap.objs.size (.tup [x, y]) :=
      ⟨by show 2 ≤ sizeLine; decide, [v1, v2], .cons ru (.cons ru2 .nil), ⟨_, hT2, rfl, _, rfl⟩⟩
    have kk : ∀ c o, c ∉ [z, TI, TO, i1, i2] → s.heap.get? c = some o → h''.get? c = some o := by
      intro c o hb q
      simp only [List.mem_cons, List.not_mem_nil, or_false, not_or] at hb
      exact (sb.2 c hb.1).trans (hk c o hb.1 hb.2.2.1 hb.2.2.2.1 hb.2.2.2.2 q)
    have I1 : Inv X pins σ (upd H s.heap.objs.size (.tup [x, y])) { s with heap := h'', toks := tk } :=
      I.turnedNew (t' := tk) (ch := [z, TI, TO, i1, i2]) kk hf (Nat.le_refl _) new
    refine ⟨.ref s.heap.objs.size, _, I1, rfl, ⟨_, x, y, rfl, I.hok.fresh (Nat.le_refl _), rfl, fun l hl => by rw [I.list_inj hl hqx]; exact hx, fun l hl => by rw [I.tuple_inj hl hqy]; exact hy⟩, ⟨z'', ?_, ⟨v1, v2, ?_⟩, ?_, ?_⟩, ?_⟩
    · exact (sb.2 _ D.TIz).trans (hk _ _ D.TIz D.TITO D.TIi1 D.TIi2 hTI)
    · exact (sb.2 _ D.TOz).trans TO'
    · exact st1.1.at fun o q => (sb.2 _ D.i1z).trans q
    · exact st2.1.at fun o q => (sb.2 _ D.i2z).trans q
    · intro c hcm
      have hlt : c < s.heap.objs.size := by
        simp only [List.mem_cons, List.not_mem_nil, or_false] at hcm
        rcases hcm with rfl | rfl | rfl | rfl | rfl
        · exact hzl
        · exact Heap.lt_size hTI
        · exact Heap.lt_size hTO
        · obtain ⟨_, e1, _⟩ := h1; exact Heap.lt_size e1
        · obtain ⟨_, e2, _⟩ := h2; exact Heap.lt_size e2
      rw [upd_ne (Nat.ne_of_lt hlt)]
      exact (hf c hcm).1
  done := by
    intro X hP hw hK hc i pins s σ H E I hf st hg
    subst hP hw hK
    obtain ⟨hz, hTI, ⟨x0, y0, hTO⟩, h1, h2⟩ := st
    obtain ⟨xs, ys, hqx, hqy, hend⟩ := hg
    obtain ⟨its, rv, p, _⟩ := I.list hqx
    obtain ⟨its2, rv2, p2, _⟩ := I.tuple hqy
    have l1 := rv.length
    have l2 := rv2.length
    refine wpAny_pyNext_zipD2_end (i := i) (sepM D) (Draws.list (A := X.A.in1) (I.ok.hd hc) i1 a D.l1i1 its.toArray) (Draws.tuple (A := X.A.in1) (I.ok.hd hc) i2 b D.l2i2 its2.toArray) hz hTI hTO ⟨h1, p.isList⟩ ⟨h2, p2⟩ (by simp; omega) (by simp; omega) (by simp; omega) ?_
    intro h' tk hk
    refine ⟨rfl, I.turnedL (t' := tk) (ch := [z, TI, TO, i1, i2]) ?_ hf⟩
    intro c o hb q
    simp only [List.mem_cons, List.not_mem_nil, or_false, not_or] at hb
    exact hk c o hb.1 hb.2.2.1 hb.2.2.2.1 hb.2.2.2.2 q
  self := fun A i s Q E st h => wpAny_pyIter_zip st.1 h
def iZipM (K : PySem.W.Frag) (ta : TA) : TI := fun σ H R => ta σ H fun vs H1 => ∃ a b xs ys, vs = [.ref a, .ref b] ∧ SqL K H1 a xs ∧ SqT K H1 b ys ∧ R (ItzM K a b) H1
theorem pi_zipM {X : Cx} {e e2 : Expr} {ta : TA} {p pos tpos : Pos} {elts : List Expr} {kk : Nat} (hg : Gl X "zip") (hm : X.mg "zip" = none) (ha : PA X [e, e2] ta)
    (hs : starEach [e, e2] X.env = (false, eval e X.env) :: starEach [e2] X.env := by rfl) (hpl : (backTo pos (starEach [e2] X.env)).any (·.1) = false := by rfl) :
    PI X (.Tuple elts kk tpos) (.Call (.Name "zip" p) [e, e2] [] pos) (iZipM X.K ta) := by
  constructor
  intro pins s σ H R I h
  refine Call_ (ld_blt I hg hm PyProof.Rows.boot_zip (PyProof.Rows.callWith_type1 (thn (ha.run pos pins s σ H _ I h) ?_) hs hpl))
  rintro us s1 ⟨vs, H1, I1, r1, a, b, xs, ys, rfl, hqx, hqy, q⟩
  obtain ⟨u, v, rfl, rfl, rfl⟩ := vals2 r1
  obtain ⟨its, rv, p1, _⟩ := I1.list hqx
  obtain ⟨its2, rv2, p2, _⟩ := I1.tuple hqy
  refine call_zipM p1.isList (show s1.heap.IsTuple b its2.toArray from p2) fun h' hz hTI hTO h1 h2 hk => wpAny_pyIter_zip hz ?_
  have I2 : Inv X pins σ H1 { s1 with heap := h' } := I1.kept (t' := s1.toks) hk
  refine ⟨s1.heap.objs.size + 4, [s1.heap.objs.size + 4, s1.heap.objs.size + 2, s1.heap.objs.size + 3, s1.heap.objs.size, s1.heap.objs.size + 1], _, _, H1, rfl, I2,
    turn_zipM (PySem.W.ktu_apart s1.heap.objs.size a b p1.lt (tupLt p2)), ⟨hz, hTI, ⟨_, _, hTO⟩, h1, h2⟩, ?_, q⟩
  intro c hcm
  have hle : s1.heap.objs.size ≤ c := by
    simp only [List.mem_cons, List.not_mem_nil, or_false] at hcm
    rcases hcm with rfl | rfl | rfl | rfl | rfl <;> omega
  exact I1.fpOk hle (I1.hok.fresh hle)
theorem walk_zipM {K : PySem.W.Frag} {a b : Addr} {xs ys : List V} {n : Nat} (hn : n = min xs.length ys.length) :
    Walk (ItzM K a b) n (fun H => SqL K H a xs ∧ SqT K H b ys) (YPair (fun i => xs[i]?) (fun i => ys[i]?)) := by
  subst hn
  constructor
  · rintro i H hi ⟨q1, q2⟩
    have h1 : i < xs.length := by omega
    have h2 : i < ys.length := by omega
    exact ⟨xs, ys, xs[i], ys[i], q1, q2, by simp [h1], by simp [h2]⟩
  · rintro H ⟨q1, q2⟩
    exact ⟨xs, ys, q1, q2, rfl⟩
  · rintro i H v H' _ ⟨q1, q2⟩ ⟨T, x, z, h1, h2, h3, h4, h5⟩
    exact ⟨T, x, z, h1, h2, h3, h4 xs q1, h5 ys q2⟩
end Pv

namespace Pv
open PySem PySem.Spec PyProof.Rows L2
theorem samePut {H H1 : Hp} {D : Addr} {o : HO} (s : Same H H1) (nD : H D = none) : Same H (upd H1 D o) := fun b z e => by rw [upd_ne (ne_of_none e nD)]; exact s b z e
theorem ty_sq {K : PySem.W.Frag} {H : Hp} {a : Addr} {xs : List V} (h : SqT K H a xs) : TyX K H (.ref a) (.type "tuple") := by
  rcases h with (h | ⟨o, h⟩) | ⟨o, its, n, h, hc, _⟩
  · exact .base (.tup h)
  · exact .fTuple h
  · exact .kTuple h hc
theorem small {n : Nat} (h : n ≤ 1000000) : n < sizeLine := Nat.lt_of_le_of_lt h (by decide)
def addAt (ls : List Int) (p x : Int) : List Int := ls.set p.toNat (ls.getD p.toNat 0 + x)
theorem addAt_len (ls : List Int) (p x : Int) : (addAt ls p x).length = ls.length := by simp [addAt]
theorem freeOf {H : Hp} {p b : Addr} {o : HO} (h : upd H p o b = none) : H b = none := by
  by_cases e : b = p
  · subst e; rw [upd_same] at h; cases h
  · rw [upd_ne e] at h; exact h
theorem ixN_nat {n j : Nat} (h : j < n) : ixN n (j : Int) = some j := by
  unfold ixN
  rw [if_pos (by omega), if_pos (by omega)]
  simp
theorem zip_take {α β : Type} : ∀ (n : Nat) (a : List α) (b : List β), (a.take n).zip (b.take n) = (a.zip b).take n
  | 0, _, _ => by simp
  | _ + 1, [], _ => by simp
  | _ + 1, _ :: _, [] => by simp
  | n + 1, x :: a, y :: b => by simp [zip_take n a b]
def zeros (n : Nat) : List Int := List.replicate n 0
theorem zeros_V (n : Nat) : (List.replicate n [V.int 0]).flatten = (zeros n).map V.int := by
  unfold zeros
  induction n with
  | zero => rfl
  | succ n ih => rw [List.replicate_succ, List.flatten_cons, ih]; rfl
theorem zip_snoc {α β : Type} {a : List α} {b : List β} {i : Nat} {x : α} {y : β} (hx : a[i]? = some x) (hy : b[i]? = some y) : (a.take (i + 1)).zip (b.take (i + 1)) = (a.take i).zip (b.take i) ++ [(x, y)] := by
  rw [zip_take, zip_take, List.take_add_one]
  have : (a.zip b)[i]? = some (x, y) := by
    rw [List.getElem?_zip_eq_some]; exact ⟨hx, hy⟩
  rw [this]; rfl
theorem take_snoc {α : Type} {l : List α} {i : Nat} {x : α} (h : l[i]? = some x) : l.take (i + 1) = l.take i ++ [x] := by rw [List.take_add_one, h]; rfl
theorem cut_to (xs : List V) (n : Nat) : cutV xs none (some (n : Int)) = xs.take n := by
  unfold cutV
  rw [HT.sIx_none, HT.sIx_nat, List.drop_zero, Nat.sub_zero]
  by_cases h : n ≤ xs.length
  · rw [Nat.min_eq_left h]
  · rw [Nat.min_eq_right (by omega), List.take_length, List.take_of_length_le (by omega)]
def absI (i : Int) : Int := if i < 0 then -i else i
theorem absI_nn (i : Int) : 0 ≤ absI i := by unfold absI; split <;> omega
def restI (c : Int) : Int := c * (if decide ((10 : Int) ^ (18 : Int).toNat ≤ c) = true then 1 else 0)
theorem restI_nn {c : Int} (h : 0 ≤ c) : 0 ≤ restI c := by unfold restI; split <;> omega
structure InsOk (cs : List Int) (gs : List Gp) : Prop where
  c1 : 1 ≤ cs.length
  c6 : cs.length ≤ 6
  cb : ∀ c ∈ cs, 1 ≤ c ∧ c ≤ 10 ^ 12
  g1 : 1 ≤ gs.length
  g10 : gs.length ≤ 10
  gp : ∀ g ∈ gs, g.1.length ≤ 6 ∧ (∀ p ∈ g.1, 0 ≤ p ∧ p < (cs.length : Int)) ∧ 1 ≤ g.2 ∧ g.2 ≤ 10 ^ 12
theorem ExtPut {st r p : Addr} {H H1 : Hp} {o : HO} (x : Ext st r H H1) (np : H p = none) : Ext st r H (upd H1 p o) := fun b z e n1 n2 => by rw [upd_ne (ne_of_none e np)]; exact x b z e n1 n2
theorem Ext.nil {st c r p : Addr} {t : Nat} {H H1 : Hp} (x : Ext st r H H1) (d : DS H1 st c r t) (np : H1 p = none) : H p = none := by
  have o := d.off np
  cases e : H p with
  | none => rfl
  | some z => rw [x _ _ e o.1 o.2.2] at np; cases np
def upTo (n : Nat) : List Int := (List.range n).map fun (i : Nat) => (i : Int)
theorem rgV_upTo (n : Nat) : rgV 0 (n : Int) = (upTo n).map V.int := by
  unfold rgV upTo
  rw [List.map_map]
  simp
theorem upTo_len (n : Nat) : (upTo n).length = n := by simp [upTo]
theorem upTo_mem {n : Nat} {x : Int} (h : x ∈ upTo n) : 0 ≤ x ∧ x < n := by
  unfold upTo at h
  obtain ⟨i, hi, rfl⟩ := List.mem_map.mp h
  have := List.mem_range.mp hi
  omega
theorem erase_map {α β : Type} (f : α → β) : ∀ (l : List α) (k : Nat), (l.map f).eraseIdx k = (l.eraseIdx k).map f
  | [], _ => rfl
  | _ :: _, 0 => rfl
  | x :: l, k + 1 => by simp [erase_map f l k]
theorem fine_grp {cs : List Int} {gs : List Gp} (ok : InsOk cs gs) {g : Gp} (hg : g ∈ gs) : Fine 2 500 (dGrp g) := by
  obtain ⟨h1, h2, h3, h4⟩ := ok.gp g hg
  refine (fine_tup (k := 1) (B := 200) (n := 2) (xs := [dI g.1, .int g.2]) ?_ (by simp)).mono (by omega) (by omega)
  intro x hx
  simp at hx
  rcases hx with rfl | rfl
  · exact (fine_dI (n := 6) (fun p hp => by have := h2 p hp; have := ok.c6; omega) h1).mono (by omega) (by omega)
  · exact (fine_int (by omega)).mono (by omega) (by omega)
theorem fine_inst {cs : List Int} {gs : List Gp} (ok : InsOk cs gs) : Fine 4 20000 (dInst cs gs) := by
  refine (fine_tup (k := 3) (B := 8000) (n := 2) (xs := [dI cs, .tuple (gs.map dGrp)]) ?_ (by simp)).mono (by omega) (by omega)
  intro x hx
  simp at hx
  rcases hx with rfl | rfl
  · exact (fine_dI (n := 6) (fun p hp => by have := ok.cb p hp; omega) ok.c6).mono (by omega) (by omega)
  · refine (fine_tup (k := 2) (B := 500) (n := 10) ?_ (by rw [List.length_map]; exact ok.g10)).mono (by omega) (by omega)
    intro d hd
    obtain ⟨g, hg, rfl⟩ := List.mem_map.mp hd
    exact fine_grp ok hg
theorem hu70 {k : Nat} {A : Around} (hr : Room k A) : A.units + 70 < cLine := by have := hr.un; omega
theorem ty_sqL {K : PySem.W.Frag} {H : Hp} {a : Addr} {xs : List V} (h : SqL K H a xs) : TyX K H (.ref a) (.type "list") := by
  rcases h with (h | ⟨o, h⟩) | ⟨o, its, n, h, hc, _⟩
  · exact .base (.lst h)
  · exact .base (.frz h)
  · exact .kList h hc
theorem FnOk.none {P : Program} {w : World} {K : PySem.W.Frag} {mg : Str → Option Value} {base : Heap} {k : Nat} {f : Addr} {fd : FuncData} {ps : List Str} : FnOk P w K mg base CX0 k f fd ps (fun _ _ _ _ => False) :=
  ⟨fun _ _ _ _ h => h.elim, fun _ _ _ _ _ _ _ _ _ _ _ _ _ h => h.elim⟩
end Pv

namespace Pv
open PySem PySem.Spec PyProof.Rows L2

/-! data of any kind: lists stand off the drawing state, dicts have leaves alone -/
def kD : Key → PyData
  | .inl i => .int i
  | .inr x => .str x
mutual
inductive Dq (K : PySem.W.Frag) (st r : Addr) (H : Hp) : V → PyData → Prop
  | non : Dq K st r H .non .none
  | bl (b : Bool) : Dq K st r H (.bl b) (.bool b)
  | int (i : Int) : Dq K st r H (.int i) (.int i)
  | str (x : Str) : Dq K st r H (.str x) (.str x)
  | lst {a : Addr} {xs : List V} {ds : List PyData} : H a = some (.lst xs) → a ≠ st → a ≠ r → a ≠ sysModules → DqAll K st r H xs ds → Dq K st r H (.ref a) (.list ds)
  | tup {a : Addr} {xs : List V} {ds : List PyData} : SqT K H a xs → DqAll K st r H xs ds → Dq K st r H (.ref a) (.tuple ds)
  | dct {a : Addr} {kvs : List (Key × Int)} : H a = some (.dK (kvs.map fun p => (p.1, V.int p.2))) → Dq K st r H (.ref a) (.dict (kvs.map fun p => (kD p.1, .int p.2)))
inductive DqAll (K : PySem.W.Frag) (st r : Addr) (H : Hp) : List V → List PyData → Prop
  | nil : DqAll K st r H [] []
  | cons {v : V} {vs : List V} {d : PyData} {ds : List PyData} : Dq K st r H v d → DqAll K st r H vs ds → DqAll K st r H (v :: vs) (d :: ds)
end
theorem keys_reads {P : Program} {w : World} {h : Heap} : ∀ {kvs : List (Key × Int)} {vs : List (Key × Value)} {es : List DictEntry}, KV (kvs.map fun p => (p.1, V.int p.2)) vs → Pairs (mixKind P w) es vs →
    ReadsAll h (es.map (·.key)) ((kvs.map fun p => (kD p.1, PyData.int p.2)).map (·.1)) [] ∧ ReadsAll h (es.map (·.val)) ((kvs.map fun p => (kD p.1, PyData.int p.2)).map (·.2)) []
  | [], _, _, rk, rp => by
    cases rk
    cases rp
    exact ⟨.nil, .nil⟩
  | p :: kvs, _, _, rk, rp => by
    obtain ⟨pk, pi⟩ := p
    rw [List.map_cons] at rk
    cases rk with
    | @cons _ q _ qs hq tq =>
      obtain ⟨qk, qv⟩ := q
      obtain ⟨h1, h2⟩ := hq
      simp only at h1 h2
      subst h1
      cases rp with
      | @cons e _ es _ he hv tp =>
        obtain ⟨r1, r2⟩ := keys_reads (h := h) tq tp
        simp only at he hv
        obtain ⟨t, ht⟩ := h2
        subst ht
        refine ⟨?_, ?_⟩
        · have k1 : Reads h e.key (kD pk) [] := by
            rcases keyIs_shape (show keyIs pk e.key = true from he) with ⟨i, t, e1, e2⟩ | ⟨x, t, e1, e2⟩
            · rw [e1, e2]; exact .int i t
            · rw [e1, e2]; exact .str x t
          exact ReadsAll.cons k1 r1
        · have k2 : Reads h e.val (.int pi) [] := by rw [hv]; exact .int pi t
          exact ReadsAll.cons k2 r2
section
variable {X : Cx} {pins : List (Addr × Obj)} {σ : L2.St} {H : Hp} {s : Shared} {st r : Addr}
mutual
theorem Dq.reads (I : Inv X pins σ H s) : ∀ (d : PyData) (v : V) (u : Value), Dq X.K st r H v d → RelV v u → ∃ as, Reads s.heap u d as ∧ sysModules ∉ as
  | .none, _, _, h, q => by
    cases h; cases q; exact ⟨[], .none, by simp⟩
  | .bool b, _, _, h, q => by
    cases h; cases q; exact ⟨[], .bool b, by simp⟩
  | .int i, _, _, h, q => by
    cases h; obtain ⟨t, e⟩ := q; subst e; exact ⟨[], .int i t, by simp⟩
  | .str x, _, _, h, q => by
    cases h; obtain ⟨t, e⟩ := q; subst e; exact ⟨[], .str x t, by simp⟩
  | .list ds, _, _, h, q => by
    cases h with
    | lst e _ _ n hd =>
      cases q
      obtain ⟨its, rel, ⟨o, m, ho, hc, _, hm⟩, _⟩ := I.list (SqL.of e)
      obtain ⟨as, h1, h2⟩ := DqAll.reads I ds _ its hd rel
      exact ⟨_, .list ho hc hm h1, by simp only [List.mem_cons, not_or]; exact ⟨fun z => n z.symm, h2⟩⟩
  | .tuple ds, _, _, h, q => by
    cases h with
    | tup e hd =>
      cases q
      obtain ⟨its, rel, ⟨o, ho, hc, m, hm⟩, _⟩ := I.tuple e
      obtain ⟨as, h1, h2⟩ := DqAll.reads I ds _ its hd rel
      exact ⟨_, .tuple ho hc hm h1, h2⟩
  | .dict _, _, _, h, q => by
    cases h with
    | dct e =>
      cases q
      obtain ⟨_, nb, vs, rk, o, es, ep, ho, hx, hm, _, rp, _⟩ := dk_of I.hok e
      obtain ⟨h1, h2⟩ := keys_reads (h := s.heap) rk rp
      exact ⟨_, .dict ho hx.1 hm h1 h2, by simp only [List.nil_append, List.append_nil, List.mem_singleton, List.mem_cons, List.not_mem_nil, or_false]; exact fun z => absurd z.symm (by simpa using nb)⟩
theorem DqAll.reads (I : Inv X pins σ H s) : ∀ (ds : List PyData) (vs : List V) (us : List Value), DqAll X.K st r H vs ds → Vals vs us → ∃ as, ReadsAll s.heap us ds as ∧ sysModules ∉ as
  | [], _, _, h, q => by
    cases h; cases q; exact ⟨[], .nil, by simp⟩
  | d :: ds, _, _, h, q => by
    cases h with
    | cons h1 h2 =>
      cases q with
      | cons q1 q2 =>
        obtain ⟨as, e1, n1⟩ := Dq.reads I d _ _ h1 q1
        obtain ⟨bs, e2, n2⟩ := DqAll.reads I ds _ _ h2 q2
        exact ⟨_, .cons e1 e2, by simp only [List.mem_append, not_or]; exact ⟨n1, n2⟩⟩
end
end
/-- repr of such data -/
theorem call_reprQ {X : Cx} (hg : X.A.guards = some []) (hu : X.A.units + 70 < cLine) : CallR X (.builtin "repr")
    (fun xs H Q => ∃ a d st r, xs = [.ref a] ∧ Dq X.K st r H (.ref a) d ∧ d.showable = true ∧ d.depth ≤ 60 ∧ d.shown.length ≤ sizeLine ∧ Q (.str d.shown) H) := by
  intro pins s σ H xs us Q I rv h
  obtain ⟨a, d, st, r, rfl, hd, h1, h3, h4, q⟩ := h
  obtain ⟨u, rfl, rfl⟩ := vals1 rv
  obtain ⟨as, rd, nm⟩ := Dq.reads I d _ _ hd rfl
  exact repr_of_reads' rd h1 (fun _ => nm) hg (by omega) (fun _ _ e => e) (fun h' u tk hk => ⟨.str _, H, I.kept hk, ⟨_, rfl⟩, q⟩) h4

/-! how it lasts -/
section
variable {K : PySem.W.Frag} {st r c : Addr} {H H' : Hp}
structure Lasts (st r : Addr) (H H' : Hp) : Prop where
  tk : TupK H H'
  ls : ∀ a xs, H a = some (.lst xs) → a ≠ st → a ≠ r → H' a = some (.lst xs)
  dk : ∀ a kvs, H a = some (.dK kvs) → H' a = some (.dK kvs)
theorem Lasts.refl : Lasts st r H H := ⟨.refl _, fun _ _ e _ _ => e, fun _ _ e => e⟩
theorem Lasts.of (s : Same H H') : Lasts st r H H' := ⟨.of s, fun a xs e _ _ => s _ _ e, fun a kvs e => s _ _ e⟩
theorem Lasts.ext {t : Nat} (d : DS H st c r t) (x : Ext st r H H') : Lasts st r H H' := by
  refine ⟨x.tup d, fun a xs e n1 n2 => x _ _ e n1 n2, fun a kvs e => ?_⟩
  obtain ⟨cells, rests, hc, hr, _⟩ := d.ex
  exact x _ _ e (ne_of e d.hs (by intro z; cases z)) (ne_of e hr (by intro z; cases z))
theorem Lasts.trans {H2 : Hp} (a : Lasts st r H H') (b : Lasts st r H' H2) : Lasts st r H H2 :=
  ⟨a.tk.trans b.tk, fun p xs e n1 n2 => b.ls _ _ (a.ls _ _ e n1 n2) n1 n2, fun p kvs e => b.dk _ _ (a.dk _ _ e)⟩
theorem Lasts.new {p : Addr} {o : HO} (np : H p = none) : Lasts st r H (upd H p o) := .of (sameNew np)
mutual
theorem Dq.lasts (l : Lasts st r H H') : ∀ {d : PyData} {v : V}, Dq K st r H v d → Dq K st r H' v d
  | .none, _, h => by cases h; exact .non
  | .bool _, _, h => by cases h; exact .bl _
  | .int _, _, h => by cases h; exact .int _
  | .str _, _, h => by cases h; exact .str _
  | .list _, _, h => by
    cases h with
    | lst e n1 n2 n3 hd => exact .lst (l.ls _ _ e n1 n2) n1 n2 n3 (DqAll.lasts l hd)
  | .tuple _, _, h => by
    cases h with
    | tup e hd => exact .tup (l.tk.sq e) (DqAll.lasts l hd)
  | .dict _, _, h => by
    cases h with
    | dct e => exact .dct (l.dk _ _ e)
theorem DqAll.lasts (l : Lasts st r H H') : ∀ {ds : List PyData} {vs : List V}, DqAll K st r H vs ds → DqAll K st r H' vs ds
  | [], _, h => by cases h; exact .nil
  | _ :: _, _, h => by
    cases h with
    | cons h1 h2 => exact .cons (Dq.lasts l h1) (DqAll.lasts l h2)
end
mutual
theorem Dq.of_dp : ∀ {d : PyData} {v : V}, tupOnly d = true → Dp K H v d → Dq K st r H v d
  | .none, _, _, h => by cases h; exact .non
  | .bool _, _, _, h => by cases h; exact .bl _
  | .int _, _, _, h => by cases h; exact .int _
  | .str _, _, _, h => by cases h; exact .str _
  | .list _, _, t, _ => by simp [tupOnly] at t
  | .tuple _, _, t, h => by
    cases h with
    | tup e hd => exact .tup e (DqAll.of_dp (by simpa [tupOnly] using t) hd)
  | .dict _, _, t, _ => by simp [tupOnly] at t
theorem DqAll.of_dp : ∀ {ds : List PyData} {vs : List V}, tupOnlyAll ds = true → DpAll K H vs ds → DqAll K st r H vs ds
  | [], _, _, h => by cases h; exact .nil
  | d :: ds, _, t, h => by
    have t' : tupOnly d = true ∧ tupOnlyAll ds = true := by simpa [tupOnlyAll] using t
    cases h with
    | cons h1 h2 => exact .cons (Dq.of_dp t'.1 h1) (DqAll.of_dp t'.2 h2)
theorem Dq.to_dp : ∀ {d : PyData} {v : V}, tupOnly d = true → Dq K st r H v d → Dp K H v d
  | .none, _, _, h => by cases h; exact .non
  | .bool _, _, _, h => by cases h; exact .bl _
  | .int _, _, _, h => by cases h; exact .int _
  | .str _, _, _, h => by cases h; exact .str _
  | .list _, _, t, _ => by simp [tupOnly] at t
  | .tuple _, _, t, h => by
    cases h with
    | tup e hd => exact .tup e (DqAll.to_dp (by simpa [tupOnly] using t) hd)
  | .dict _, _, t, _ => by simp [tupOnly] at t
theorem DqAll.to_dp : ∀ {ds : List PyData} {vs : List V}, tupOnlyAll ds = true → DqAll K st r H vs ds → DpAll K H vs ds
  | [], _, _, h => by cases h; exact .nil
  | d :: ds, _, t, h => by
    have t' : tupOnly d = true ∧ tupOnlyAll ds = true := by simpa [tupOnlyAll] using t
    cases h with
    | cons h1 h2 => exact .cons (Dq.to_dp t'.1 h1) (DqAll.to_dp t'.2 h2)
end
theorem DqAll.len : ∀ {vs : List V} {ds : List PyData}, DqAll K st r H vs ds → vs.length = ds.length
  | _, _, .nil => rfl
  | _, _, .cons _ t => by simp [DqAll.len t]
theorem DqAll.at : ∀ {vs : List V} {ds : List PyData} {i : Nat} {v : V}, DqAll K st r H vs ds → vs[i]? = some v → ∃ d, ds[i]? = some d ∧ Dq K st r H v d
  | _, _, _, _, .nil, e => by simp at e
  | _, _, 0, _, .cons h _, e => by simp at e; subst e; exact ⟨_, rfl, h⟩
  | _, _, i + 1, v, .cons _ t, e => by
    obtain ⟨d, h1, h2⟩ := DqAll.at (i := i) t (by simpa using e)
    exact ⟨d, by simpa using h1, h2⟩
theorem DqAll.app : ∀ {vs ws : List V} {ds es : List PyData}, DqAll K st r H vs ds → DqAll K st r H ws es → DqAll K st r H (vs ++ ws) (ds ++ es)
  | _, _, _, _, .nil, h => h
  | _, _, _, _, .cons h t, h' => .cons h (DqAll.app t h')
theorem DqAll.snoc {vs : List V} {ds : List PyData} {v : V} {d : PyData} (h : DqAll K st r H vs ds) (h' : Dq K st r H v d) : DqAll K st r H (vs ++ [v]) (ds ++ [d]) := h.app (.cons h' .nil)
theorem DqAll.rev : ∀ {vs : List V} {ds : List PyData}, DqAll K st r H vs ds → DqAll K st r H vs.reverse ds.reverse
  | _, _, .nil => .nil
  | _, _, .cons h t => by rw [List.reverse_cons, List.reverse_cons]; exact (DqAll.rev t).snoc h
theorem DqAll.take : ∀ {vs : List V} {ds : List PyData} (n : Nat), DqAll K st r H vs ds → DqAll K st r H (vs.take n) (ds.take n)
  | _, _, 0, _ => .nil
  | _, _, _ + 1, .nil => .nil
  | _, _, n + 1, .cons h t => .cons h (DqAll.take n t)
theorem DqAll.drop : ∀ {vs : List V} {ds : List PyData} (n : Nat), DqAll K st r H vs ds → DqAll K st r H (vs.drop n) (ds.drop n)
  | _, _, 0, h => h
  | _, _, _ + 1, .nil => .nil
  | _, _, n + 1, .cons _ t => DqAll.drop n t
/-- its type -/
def tyN : PyData → String
  | .none => "NoneType"
  | .bool _ => "bool"
  | .int _ => "int"
  | .str _ => "str"
  | .list _ => "list"
  | .tuple _ => "tuple"
  | .dict _ => "dict"
theorem Dq.ty {d : PyData} {v : V} (h : Dq K st r H v d) : TyX K H v (.type (tyN d)) := by
  cases h with
  | non => exact .base .non
  | bl b => exact .base (.bl b)
  | int i => exact .base (.int i)
  | str x => exact .base (.str x)
  | lst e => exact .base (.lst e)
  | tup e _ =>
    rcases e with (e | ⟨o, e⟩) | ⟨o, its, n, e, hc, _⟩
    · exact .base (.tup e)
    · exact .fTuple e
    · exact .kTuple e hc
  | dct e => exact .base (.dK e)
def isTup : PyData → Bool
  | .tuple _ => true
  | _ => false
def isInt : PyData → Bool
  | .int _ => true
  | .bool _ => true
  | _ => false
def isBool : PyData → Bool
  | .bool _ => true
  | _ => false
theorem kit_tup (d : PyData) : PySem.W.kitOne K (.type (tyN d)) (.type "tuple") = some (isTup d) := by
  have key : ∀ a b : String, ∀ x : Bool, kitB a b = some x → PySem.W.kitOne K (.type a) (.type b) = some x := fun _ _ _ h => kit_ty h
  cases d
  · exact key "NoneType" "tuple" false (by decide +kernel)
  · exact key "bool" "tuple" false (by decide +kernel)
  · exact key "int" "tuple" false (by decide +kernel)
  · exact key "str" "tuple" false (by decide +kernel)
  · exact key "list" "tuple" false (by decide +kernel)
  · exact key "tuple" "tuple" true (by decide +kernel)
  · exact key "dict" "tuple" false (by decide +kernel)
theorem kit_int (d : PyData) : PySem.W.kitOne K (.type (tyN d)) (.type "int") = some (isInt d) := by
  have key : ∀ a b : String, ∀ x : Bool, kitB a b = some x → PySem.W.kitOne K (.type a) (.type b) = some x := fun _ _ _ h => kit_ty h
  cases d
  · exact key "NoneType" "int" false (by decide +kernel)
  · exact key "bool" "int" true (by decide +kernel)
  · exact key "int" "int" true (by decide +kernel)
  · exact key "str" "int" false (by decide +kernel)
  · exact key "list" "int" false (by decide +kernel)
  · exact key "tuple" "int" false (by decide +kernel)
  · exact key "dict" "int" false (by decide +kernel)
theorem kit_bool (d : PyData) : PySem.W.kitOne K (.type (tyN d)) (.type "bool") = some (isBool d) := by
  have key : ∀ a b : String, ∀ x : Bool, kitB a b = some x → PySem.W.kitOne K (.type a) (.type b) = some x := fun _ _ _ h => kit_ty h
  cases d
  · exact key "NoneType" "bool" false (by decide +kernel)
  · exact key "bool" "bool" true (by decide +kernel)
  · exact key "int" "bool" false (by decide +kernel)
  · exact key "str" "bool" false (by decide +kernel)
  · exact key "list" "bool" false (by decide +kernel)
  · exact key "tuple" "bool" false (by decide +kernel)
  · exact key "dict" "bool" false (by decide +kernel)
end
/-! a new list, whose address is none of the machine's own -/
def tLstS (t : TA) : TE := fun σ H Q => t σ H fun xs H1 => xs.length ≤ sizeLine ∧ ∀ p, H1 p = none → p ≠ sysModules → Q (.ref p) (upd H1 p (.lst xs))
section
variable {X : Cx} {es : List Expr} {pos : Pos} {t : TA}
theorem pe_lstS (h : PA X es t) : PE X (.List es pos) (tLstS t) := by
  constructor
  intro pins s σ H Q I hq
  refine wpAny_List_spliced (thn (h.run pos pins s σ H _ I hq) ?_)
  rintro us s1 ⟨xs, H1, I1, rel, z, q⟩
  refine ⟨by rw [← rel.length]; exact z, .ref s1.heap.objs.size, _, ?_, rfl, q _ (I1.hok.fresh (Nat.le_refl _)) (Nat.ne_of_gt I1.big)⟩
  exact I1.laid (t' := s1.toks) (fun b u e => Heap.get?_push_of_some _ e) (Nat.le_refl _) ⟨z, us, 0, rel, Heap.get?_push_size _ rfl⟩
def rListS (K : PySem.W.Frag) : RC := fun xs H Q => ∃ (p : Addr) (ys : List V), xs = [.ref p] ∧ SqT K H p ys ∧ ∀ l, H l = none → l ≠ sysModules → Q (.ref l) (upd H l (.lst ys))
theorem call_listS : CallR X (.type "list") (rListS X.K) := by
  intro pins s σ H xs us Q I rel h
  obtain ⟨p, ys, e, hq, q⟩ := h
  subst e
  obtain ⟨u, e, rx⟩ := vals1 rel
  subst e
  cases rx
  obtain ⟨its, r', ⟨o, ho, hc, n, hd⟩, hz⟩ := I.tuple hq
  have hlen := r'.length
  refine call_list_seq p (.inr rfl) ho hc hd (fun h' c' kp e => ?_) (by simp only [List.size_toArray]; omega)
  exact ⟨.ref s.heap.objs.size, _, I.laid (t' := s.toks) (o := .lst ys) kp (Nat.le_refl _) ⟨hz, its, c', r', e⟩, rfl, q _ (I.hok.fresh (Nat.le_refl _)) (Nat.ne_of_gt I.big)⟩
end
end Pv

/-! t[::-1] of a tuple -/
namespace HT
open PySem PyProof.Rows
section
variable {prog : Program} {w : World} {A : Around} {E : Value → Shared → Prop} {s : Shared}
theorem pv_pickBack (xs : Array Value) : ((List.range xs.size).filterMap fun (k : Nat) => xs[(((xs.size : Int) - 1) + (k : Int) * (-1)).toNat]?) = xs.toList.reverse := by
  apply List.ext_getElem?
  intro i
  have e : ∀ n, n ≤ xs.size → ((List.range n).filterMap fun (k : Nat) => xs[(((xs.size : Int) - 1) + (k : Int) * (-1)).toNat]?) = xs.toList.reverse.take n := by
    intro n
    induction n with
    | zero => intro _; rfl
    | succ n ih =>
      intro hn
      rw [List.range_succ, List.filterMap_append, ih (by omega), List.take_add_one]
      congr 1
      have h1 : (((xs.size : Int) - 1) + (n : Int) * (-1)).toNat = xs.size - 1 - n := by omega
      rw [List.filterMap_cons, List.filterMap_nil, h1, List.getElem?_reverse (by rw [Array.length_toList]; omega), Array.length_toList, Array.getElem?_toList]
      cases xs[xs.size - 1 - n]? <;> rfl
  rw [e xs.size (Nat.le_refl _), List.take_of_length_le (by simp)]
theorem pv_appliedBack {sl : Addr} {n : Nat} {t : Tok} {Q : Int × Int × Nat → Shared → Prop} (hs : s.heap.IsSliceOf sl .none .none (.int (-1) t)) (h : Q ((n : Int) - 1, -1, n) s) :
    wpAny (model prog w) A (Builtin.Slice.sliceApplied (.ref sl) (pure (n : Int))) Q E s := by
  obtain ⟨os, hos, hcs, hds⟩ := id hs
  unfold Builtin.Slice.sliceApplied Builtin.Slice.sliceFields
  refine wpAny_bind (wpAny_bind (wpAny_field hos hds (x := .none) rfl (wpAny_bind (wpAny_field hos hds (x := .none) rfl (wpAny_bind (wpAny_field hos hds (x := .int (-1) t) rfl (wpAny_pure ?_)))))))
  refine wpAny_bind (slicePart_ (IsPart.int (-1) t) ?_)
  show wpAny _ _ (if ((-1 : Int) == 0) = true then _ else _) _ _ s
  rw [if_neg (by decide)]
  refine wpAny_bind (slicePart_ IsPart.none (wpAny_bind (slicePart_ IsPart.none (wpAny_bind (wpAny_pure ?_)))))
  show wpAny _ _ (match Builtin.Slice.sliceAdjust none none (-1) (n : Int) with | (a, b) => pure (a, (-1 : Int), Builtin.Slice.slicePlaces a b (-1))) _ _ s
  have e1 : Builtin.Slice.sliceAdjust none none (-1) (n : Int) = ((n : Int) - 1, -1) := rfl
  rw [e1]
  show wpAny _ _ (pure ((n : Int) - 1, (-1 : Int), Builtin.Slice.slicePlaces ((n : Int) - 1) (-1) (-1))) _ _ s
  have e2 : Builtin.Slice.slicePlaces ((n : Int) - 1) (-1) (-1) = n := by
    unfold Builtin.Slice.slicePlaces
    have h1 : ¬ ((-1 : Int) > 0) := by omega
    simp only [h1, if_false]
    by_cases h2 : (n : Int) - 1 > -1
    · rw [if_pos h2]
      have h3 : -(-1 : Int) = 1 := rfl
      rw [h3, Int.ediv_one]
      omega
    · rw [if_neg h2]; omega
  rw [e2]
  exact wpAny_pure h
theorem pv_getItemBack {p sl : Addr} {items : Array Value} {t : Tok} {Q : Value → Shared → Prop} (ht : IsTup s.heap p items) (hs : s.heap.IsSliceOf sl .none .none (.int (-1) t))
    (h : Q (.ref s.heap.objs.size) { s with heap := s.heap.push { cls := .type "tuple", data := .seq items.toList.reverse.toArray } }) (hsz : items.size ≤ sizeLine) : wpAny (model prog w) A (getItem (.ref p) (.ref sl)) Q E s := by
  have hfit : sizeOk (.seq items.toList.reverse.toArray) := by
    show items.toList.reverse.toArray.size ≤ sizeLine
    rw [List.size_toArray, List.length_reverse]; simpa using hsz
  obtain ⟨os, hos, hcs, hds⟩ := id hs
  have hT : s.TypeIs (.ref sl) "slice" := ⟨os, hos, hcs⟩
  unfold getItem; try with_reducible refine wpAny_holding ?_
  first | refine wpAny_bind (wpAny_pure ?_) | skip
  refine wpAny_bind (wpAny_sequenceKey ht.typeIs (by decide) (wpAny_bind (wpAny_callSpecial?_slot (name := Str.ofString "__getitem__") ht.typeIs PyProof.Rows.slot_tuple_getitem
    (wpAny_call_entry PyProof.Rows.slot_tuple_getitem ht.typeIs entry_tuple_getitem ?_ (args_tuple_getitem _ _)))))
  show wpAny _ _ (Builtin.Tuple.tupleItemsOf (.ref p) >>= _) _ _ s
  refine wpAny_bind (tupleItemsOf_ ht (wpAny_bind (wpAny_typeOf hT ?_)))
  rw [if_pos (by decide)]
  refine wpAny_bind (pv_appliedBack hs ?_)
  show wpAny _ _ (if (((items.size : Int) - 1) == 0 && (-1 : Int) == 1 && items.size == items.size) = true then _ else _) _ _ s
  rw [if_neg (by simp)]
  show wpAny _ _ (Builtin.Tuple.tupleExact ((List.range items.size).filterMap fun (k : Nat) => items[(((items.size : Int) - 1) + (k : Int) * (-1)).toNat]?).toArray >>= _) _ _ s
  rw [pv_pickBack]
  first
    | exact wpAny_bind (m := Builtin.Tuple.tupleExact _) (wpAny_newObj_type (wpAny_pure ⟨_, rfl, wpAny_pure h⟩) hfit)
    | exact wpAny_bind (m := Builtin.Tuple.tupleExact _) (wpAny_newObj_type (wpAny_bind (wpAny_pure (wpAny_pure ⟨_, rfl, wpAny_pure h⟩))) hfit)
    | exact wpAny_bind (wpAny_bind (m := Builtin.Tuple.tupleExact _) (wpAny_newObj_type (wpAny_pure (wpAny_pure ⟨_, rfl, wpAny_pure h⟩)) hfit))
    | exact wpAny_bind (wpAny_bind (m := Builtin.Tuple.tupleExact _) (wpAny_newObj_type (wpAny_pure ⟨_, rfl, wpAny_pure h⟩) hfit))
end
end HT
namespace Pv
open PySem PySem.Spec PyProof.Rows L2
def tRevT (K : PySem.W.Frag) (te : TE) : TE := fun σ H Q => te σ H fun x H1 => ∃ (a : Addr) (xs : List V), x = .ref a ∧ SqT K H1 a xs ∧ ∀ p, H1 p = none → Q (.ref p) (upd H1 p (.tup xs.reverse))
section
variable {X : Cx}
theorem pe_revT {e : Expr} {te : TE} {k : Nat} {p1 p2 p3 pos : Pos} (he : PE X e te) : PE X (.Subscript e (.Slice none none (some (.UnaryOp .USub (.Constant (.int 1) k p1) p2)) p3) pos) (tRevT X.K te) := by
  constructor
  intro pins s σ H Q I h
  refine Subscript_ (thn (he.run pins s σ H _ I h) ?_)
  rintro v s1 ⟨x, H1, I1, r1, a, xs, rfl, hx, q⟩
  cases r1
  have hst : PO X (some (.UnaryOp .USub (.Constant (.int 1) k p1) p2)) (tPart (tUn (rU fun i => .int (-i)) (tC (.int 1)))) := po_some (pe_un un_neg pe_int)
  refine wpAny_Slice (thn (po_none.run pins s1 σ H1 (fun o H2 => o = none ∧ H2 = H1) I1 ⟨rfl, rfl⟩) ?_)
  rintro vl s2 ⟨l, H2, I2, pl, rfl, rfl⟩
  refine thn (po_none.run pins s2 σ H2 (fun o H3 => o = none ∧ H3 = H2) I2 ⟨rfl, rfl⟩) ?_
  rintro vu s3 ⟨u, H3, I3, pu, rfl, rfl⟩
  refine thn (hst.run pins s3 σ H3 (fun o H4 => o = some (-1) ∧ H4 = H3) I3 ⟨1, rfl, -1, rfl, rfl, rfl⟩) ?_
  rintro vs s4 ⟨o, H4, I4, ps, rfl, rfl⟩
  have I5 : Inv X pins σ H4 { s4 with heap := s4.heap.push { cls := .type "slice", data := .fields #[vl, vu, vs] } } := I4.kept (t' := s4.toks) fun b ob q => Heap.get?_push_of_some _ q
  obtain ⟨its, r, ht, hz⟩ := I5.tuple hx
  have hlen := r.length
  cases pl
  cases pu
  cases ps
  show wpAny (model X.prog X.w) X.A (subscriptTail e (.Slice none none (some (.UnaryOp .USub (.Constant (.int 1) k p1) p2)) p3) (.ref a) (.ref s4.heap.objs.size)) (EP X pins σ Q) X.xe _
  refine tail_any (ops := [.ref a, .ref s4.heap.objs.size]) ht.typeIs (PyProof.Rows.slot_tuple_getitem.lookup) ?_ (by with_unfolding_all rfl)
  refine HT.pv_getItemBack ht (Heap.IsSliceOf.new _ _ _ _) ?_ (by rw [List.size_toArray]; omega)
  refine ⟨.ref _, _, I5.laid (t' := s4.toks) (o := .tup xs.reverse) (fun b ob q => Heap.get?_push_of_some _ q) (Nat.le_refl _) ?_, rfl, q _ (I5.hok.fresh (Nat.le_refl _))⟩
  exact ⟨by rw [List.length_reverse]; exact hz, _, r.reverse, IsTup.new _ _⟩
/-! list == [], tuple != () whatever the items are -/
def rEqNil (K : PySem.W.Frag) : R2 := fun x y H Q => ∃ (a b : Addr) (xs : List V), x = .ref a ∧ y = .ref b ∧ SqL K H a xs ∧ SqL K H b [] ∧ Q (.bl xs.isEmpty) H
theorem op_eqNil (hu : X.A.units < cLine) : OpR X (compareOp .Eq) (rEqNil X.K) := by
  intro pins s σ H x y v u Q I rx ry h
  obtain ⟨a, b, xs, rfl, rfl, ha, hb, q⟩ := h
  cases rx
  cases ry
  obtain ⟨its, r1, p1, z1⟩ := I.list ha
  obtain ⟨its2, r2, p2, z2⟩ := I.list hb
  cases r2
  cases xs with
  | nil =>
    cases r1
    exact SeqAt.RcAt.lists (e := fun _ => true) p1.isList p2.isList rfl hu (fun j h1 _ => absurd h1 (Nat.not_lt_zero _)) X.prog X.w _ _ ⟨.bl true, H, I, rfl, q⟩
  | cons x xs =>
    have hl := r1.length
    exact SeqAt.RcAt.lists_lengths p1.isList p2.isList (by rw [List.size_toArray, ← hl]; rfl) hu X.prog X.w _ _ ⟨.bl false, H, I, rfl, q⟩
def rNeNilT (K : PySem.W.Frag) : R2 := fun x y H Q => ∃ (a b : Addr) (xs : List V), x = .ref a ∧ y = .ref b ∧ SqT K H a xs ∧ SqT K H b [] ∧ Q (.bl (!xs.isEmpty)) H
theorem op_neNilT (hu : X.A.units < cLine) : OpR X (compareOp .NotEq) (rNeNilT X.K) := by
  intro pins s σ H x y v u Q I rx ry h
  obtain ⟨a, b, xs, rfl, rfl, ha, hb, q⟩ := h
  cases rx
  cases ry
  obtain ⟨its, r1, p1, z1⟩ := I.tuple ha
  obtain ⟨its2, r2, p2, z2⟩ := I.tuple hb
  cases r2
  have hl := r1.length
  have key := SeqAt.RcNeAt.tuples (A := X.A) (e := fun _ => true) (show s.heap.IsTuple a its.toArray from p1) (show s.heap.IsTuple b ([] : List Value).toArray from p2) hu (fun j _ h2 => absurd h2 (Nat.not_lt_zero _)) X.prog X.w
  have e : (!((List.range (min its.toArray.size ([] : List Value).toArray.size)).all (fun _ => true) && its.toArray.size == ([] : List Value).toArray.size)) = !xs.isEmpty := by
    rw [List.size_toArray, ← hl]
    cases xs <;> simp
  rw [e] at key
  exact key _ _ ⟨.bl _, H, I, rfl, q⟩
end
end Pv

namespace Pv
open PySem PySem.Spec PyProof.Rows L2
def topS (i : Nat) : Stmt := PySem.Challenge.pw_postvote_k72_other_texts_of_instances.main.body.getD i (.Pass ⟨0, 0, 0, 0⟩)
abbrev sDraw : Stmt := topS 26
abbrev sStart : Stmt := topS 25
abbrev sOne : Stmt := topS 27
theorem scDraw : FnScope ["_law_deck_here", "_law_many", "_law_cells", "_law_rests", "_law_count", "_law_index", "_law_digit", "_law_mixed_here"] ["_law_deck_here", "_law_many"] (defScope sDraw) :=
  ⟨rfl, rfl, rfl, by decide +kernel, rfl, by decide +kernel, by decide +kernel⟩
theorem scStart : FnScope ["_law_script", "_law_cells", "_law_cell"] ["_law_script"] (defScope sStart) := ⟨rfl, rfl, rfl, by decide +kernel, rfl, by decide +kernel, by decide +kernel⟩
theorem scOne : FnScope ["_law_deck_here", "_law_items"] ["_law_deck_here", "_law_items"] (defScope sOne) := ⟨rfl, rfl, rfl, by decide +kernel, rfl, by decide +kernel, by decide +kernel⟩
section
variable {P : Program} {w : World} {K : PySem.W.Frag} {mg : Str → Option Value} {base : Heap}
def spDraw : Sp := fun vs H Q _ => ∃ (st c r : Addr) (t : Nat) (m : Int), vs = [.ref st, .int m] ∧ DS H st c r t ∧ t < 1000000 ∧ 0 < m ∧ m ≤ 2 ^ 60 ∧
  ∀ (H' : Hp) (d : Int), 0 ≤ d → d < m → DS H' st c r (t + 1) → Ext st r H H' → Q (.int d) H'
set_option maxHeartbeats 1000000 in
theorem ok_draw {f : Addr} {fd : FuncData} {k : Nat} (F : Fun K "_law_next" "_law_next" sDraw f fd) (ml : mg "len" = none) : FnOk P w K mg base CX0 (k + 1) f fd ["_law_deck_here", "_law_many"] spDraw := by
  refine F.ok scDraw (fun vs H Q E h => ?_) (fun cdv A outer s H vs Q E hr h => ?_)
  · obtain ⟨st, c, r, t, m, rfl, _⟩ := h
    rfl
  · obtain ⟨st, c, r, t, m, rfl, hd, ht, hm, hm2, q⟩ := h
    obtain ⟨cells, rests, hc, hrr, hl, hl0, hl1, hnn⟩ := hd.ex
    refine ⟨_, pss_cons (ps_asg (pv 0) (pg_unl rfl (pgs_cons (pg_name (i := 2) scDraw.nd rfl (.inl rfl)) (pgs_cons (pg_name (i := 3) scDraw.nd rfl (.inl rfl)) (pgs_cons (pg_name (i := 4) scDraw.nd rfl (.inl rfl)) pgs_nil)))))
      (pss_cons (ps_asg (pe_op op_add (pv 4) pe_int) (pg_sub (pv 0) pe_int set_list))
      (pss_cons (ps_set (i := 5) scDraw.nd rfl (.inl rfl) (pe_op op_mod (pv 4) (pe_callB call_len_seq (by rfl) ml PySem.boot_len (pa_cons (pv 2) pa_nil))))
      (pss_cons (ps_if (pt_cmpR op_gt (pe_ix ix_list (pv 3) (pv 5) (fun _ _ => rfl)) pe_int (nomark _))
        (pss_cons (ps_set (i := 6) scDraw.nd rfl (.inl rfl) (pe_op op_mod (pe_ix ix_list (pv 3) (pv 5) (fun _ _ => rfl)) (pv 1)))
        (pss_cons (ps_asg (pe_op op_fdivW (pe_ix ix_list (pv 3) (pv 5) (fun _ _ => rfl)) (pv 1)) (pg_sub (pv 3) (pv 5) set_list))
        (pss_one (ps_ret (pv 6))))) pss_nil)
      (pss_cons (ps_set (i := 7) scDraw.nd rfl (.inl rfl) (pe_op op_mul (pe_op op_add (pe_op op_add (pe_ix ix_list (pv 2) (pv 5) (fun _ _ => rfl)) (pe_op op_mul pe_int (pv 4))) pe_int) (pe_op op_add pe_int (pe_op op_mul pe_int (pv 4)))))
      (pss_cons (ps_set (i := 7) scDraw.nd rfl (.inl rfl) (pe_op op_mod (pe_op op_add (pv 7) (pe_op op_mul pe_int (pv 4))) pe_int))
      (pss_cons (ps_set (i := 7) scDraw.nd rfl (.inl rfl) (pe_op op_mod (pe_op op_add (pe_op op_mul (pv 7) (pv 7)) pe_int) pe_int))
      (pss_cons (ps_set (i := 7) scDraw.nd rfl (.inl rfl) (pe_op op_mod (pe_op op_mul (pv 7) (pv 7)) pe_int))
      (pss_one (ps_ret (pe_op op_mod (pe_op op_fdiv (pv 7) pe_int) (pv 1))))))))))), ?_⟩
    refine ⟨.ref st, rfl, st, _, rfl, SqL.of hd.hs, rfl, .ref c, _, rfl, .ref r, _, rfl, .int t, _, rfl, rfl, ?_⟩
    -- deck[2] = count + 1
    refine ⟨.int t, rfl, _, _, rfl, rfl, .ref st, rfl, st, _, 2, 2, rfl, rfl, hd.hs, rfl, ?_⟩
    have e1 : (upd H st (.lst [.ref c, .ref r, .int ((t : Int) + 1)])) r = some (.lst (rests.map V.int)) := by rw [upd_ne hd.n3.symm]; exact hrr
    have e2 : (upd H st (.lst [.ref c, .ref r, .int ((t : Int) + 1)])) c = some (.lst (cells.map V.int)) := by rw [upd_ne hd.n2.symm]; exact hc
    have ex0 : Ext st r H (upd H st (.lst [.ref c, .ref r, .int ((t : Int) + 1)])) := fun b o h n1 _ => by rw [upd_ne n1]; exact h
    have d0 : DS (upd H st (.lst [.ref c, .ref r, .int ((t : Int) + 1)])) st c r (t + 1) := ⟨upd_same, ⟨cells, rests, e2, e1, hl, hl0, hl1, hnn⟩, hd.n1, hd.n2, hd.n3⟩
    -- index
    refine ⟨.int t, rfl, .ref c, rfl, c, _, rfl, .inl (SqL.of e2), _, _, rfl, rfl, by rw [List.length_map]; omega, ?_⟩
    have hn : (List.map V.int cells).length = cells.length := List.length_map ..
    have hsp : ((t : Int) % (((List.map V.int cells).length : Nat) : Int)) = ((t % cells.length : Nat) : Int) := by rw [hn]; norm_cast
    have hlt : t % cells.length < cells.length := Nat.mod_lt _ hl0
    generalize hj : t % cells.length = j at hsp hlt
    obtain ⟨x, hx⟩ : ∃ x, rests[j]? = some x := ⟨rests[j], List.getElem?_eq_getElem (by omega)⟩
    obtain ⟨y, hy⟩ : ∃ y, cells[j]? = some y := ⟨cells[j], List.getElem?_eq_getElem (by omega)⟩
    have hx0 : 0 ≤ x := hnn x (List.mem_of_getElem? hx)
    have hxv : (rests.map V.int)[j]? = some (.int x) := by rw [List.getElem?_map, hx]; rfl
    have hyv : (cells.map V.int)[j]? = some (.int y) := by rw [List.getElem?_map, hy]; rfl
    dsimp only
    rw [hsp]
    refine ⟨.ref r, rfl, .int j, rfl, r, _, _, .int x, rfl, rfl, SqL.of e1, atI_nat hxv, _, _, rfl, rfl, _, rfl, ite2 (fun hgt => ?_) (fun hle => ?_)⟩
    · refine ⟨.ref r, rfl, .int j, rfl, r, _, _, .int x, rfl, rfl, SqL.of e1, atI_nat hxv, .int m, rfl, _, _, rfl, rfl, hm, ?_⟩
      refine ⟨.ref r, rfl, .int j, rfl, r, _, _, .int x, rfl, rfl, SqL.of e1, atI_nat hxv, .int m, rfl, _, _, rfl, rfl, wide_div (b := 61) hm (by omega) (by decide) (by decide), ?_⟩
      refine ⟨.ref r, rfl, .int j, rfl, r, _, _, j, rfl, rfl, e1, ixN_nat (by rw [List.length_map]; omega), ?_⟩
      refine ⟨_, rfl, q _ _ (Int.emod_nonneg _ (by omega)) (Int.emod_lt_of_pos _ hm) ?_ ?_⟩
      · refine ⟨by rw [upd_ne hd.n3]; exact upd_same, ⟨cells, rests.set j (x / m), by rw [upd_ne hd.n1]; exact e2, by rw [upd_same, List.map_set], by rw [List.length_set]; exact hl, hl0, hl1, ?_⟩, hd.n1, hd.n2, hd.n3⟩
        intro z hz
        rcases List.mem_or_eq_of_mem_set hz with h | h
        · exact hnn z h
        · rw [h]; exact Int.ediv_nonneg hx0 (by omega)
      · exact fun b o h n1 n2 => by rw [upd_ne n2]; exact ex0 b o h n1 n2
    · refine ⟨.ref c, rfl, .int j, rfl, c, _, _, .int y, rfl, rfl, SqL.of e2, atI_nat hyv, .int t, rfl, _, _, rfl, rfl, .inl ⟨by decide, by decide⟩, _, _, rfl, rfl, _, _, rfl, rfl, .int t, rfl, _, _, rfl, rfl, .inl ⟨by decide, by decide⟩, _, _, rfl, rfl, _, _, rfl, rfl, .inr ⟨by omega, by omega⟩, ?_⟩
      refine ⟨_, rfl, .int t, rfl, _, _, rfl, rfl, .inl ⟨by decide, by decide⟩, _, _, rfl, rfl, _, _, rfl, rfl, (by show (0 : Int) < 2305843009213693951; decide), ?_⟩
      dsimp only
      generalize hu : ((y + 1301 * (t : Int) + 23) * (50021 + 2 * (t : Int)) + 90001 * (t : Int)) % 2305843009213693951 = u
      have hu1 : 0 ≤ u := by rw [← hu]; exact Int.emod_nonneg _ (by decide)
      have hu2 : u < 2305843009213693951 := by rw [← hu]; exact Int.emod_lt_of_pos _ (by decide)
      refine ⟨.int u, rfl, .int u, rfl, _, _, rfl, rfl, .inl ⟨by omega, by omega⟩, _, _, rfl, rfl, _, _, rfl, rfl, (by show (0 : Int) < 2305843009213693921; decide), ?_⟩
      dsimp only
      generalize hv : (u * u + 60013) % 2305843009213693921 = v
      have hv1 : 0 ≤ v := by rw [← hv]; exact Int.emod_nonneg _ (by decide)
      have hv2 : v < 2305843009213693921 := by rw [← hv]; exact Int.emod_lt_of_pos _ (by decide)
      refine ⟨.int v, rfl, .int v, rfl, _, _, rfl, rfl, .inl ⟨by omega, by omega⟩, _, _, rfl, rfl, (by show (0 : Int) < 2305843009213693951; decide), ?_⟩
      refine ⟨_, rfl, _, _, rfl, rfl, ⟨by decide, by decide⟩, .int m, rfl, _, _, rfl, rfl, hm, ?_⟩
      exact q _ _ (Int.emod_nonneg _ (by omega)) (Int.emod_lt_of_pos _ hm) d0 ex0
def spStart (K : PySem.W.Frag) : Sp := fun vs H Q _ => ∃ (a : Addr) (ns : List Int), vs = [.ref a] ∧ SqL K H a (ns.map V.int) ∧ ns.length ≤ 63 ∧
  ∀ H' st c r, Same H H' → DS H' st c r 0 → Q (.ref st) H'
set_option maxHeartbeats 2000000 in
theorem ok_start {f : Addr} {fd : FuncData} {k : Nat} (F : Fun K "_law_deck" "_law_deck" sStart f fd) (ma : mg "abs" = none) (mi : mg "int" = none) (ml : mg "len" = none) :
    FnOk P w K mg base CX0 (k + 1) f fd ["_law_script"] (spStart K) := by
  refine F.ok scStart (fun vs H Q E h => ?_) (fun cdv A outer s H vs Q E hr h => ?_)
  · obtain ⟨a, ns, rfl, _⟩ := h; rfl
  · obtain ⟨a, ns, rfl, hS, hn, q⟩ := h
    refine ⟨_, pss_cons (ps_set (i := 1) scStart.nd rfl (.inl rfl) (pe_op op_cat
        (pe_lc (own := [("_law_cell", 2)]) (g := gName 2) (tt := tYes) rfl scStart.nd (pi_list (pe_slice sl_list (pv 0) po_none (po_some pe_int))) (blkOk_by (N := ["_law_script", "_law_cells", "_law_cell"]) (sc := defScope sStart) (by decide +kernel))
            (fun _ _ _ _ _ => pg_name (i := 2) scStart.nd rfl (.inl rfl)) (fun _ _ _ _ _ => pts_nil)
            (fun _ _ _ _ _ => pe_callB call_abs (by rfl) ma (by decide +kernel) (pa_cons (pv 2) pa_nil)))
        (pe_op op_rep (pe_lst (pa_cons pe_int pa_nil)) (pe_callTy call_int1 (by rfl) mi (by decide +kernel) (pa_cons (pe_cmpR op_eq (pe_callB call_len_seq (by rfl) ml PySem.boot_len (pa_cons (pv 0) pa_nil)) pe_int (nomark _)) pa_nil)))))
      (pss_one (ps_ret (pe_lst (pa_cons (pv 1) (pa_cons
        (pe_lc (own := [("_law_cell", 2)]) (g := gName 2) (tt := tYes) rfl scStart.nd (pi_list (pv 1)) (blkOk_by (N := ["_law_script", "_law_cells", "_law_cell"]) (sc := defScope sStart) (by decide +kernel))
            (fun _ _ _ _ _ => pg_name (i := 2) scStart.nd rfl (.inl rfl)) (fun _ _ _ _ _ => pts_nil)
            (fun _ _ _ _ _ => pe_op op_mul (pv 2) (pe_callTy call_int1 (by rfl) mi (by decide +kernel) (pa_cons (pe_cmpR op_ge (pv 2) (pe_op op_pow pe_int pe_int) (nomark _)) pa_nil))))
        (pa_cons pe_int pa_nil)))))), ?_⟩
    have hcut : cutV (ns.map V.int) none (some 61) = (ns.take 61).map V.int := by rw [List.map_take]; exact cut_to _ 61
    refine ⟨.ref a, rfl, 61, rfl, a, _, rfl, hS, fun p np => ⟨p, rfl, ⟨_, SqL.of upd_same⟩, fun D nD => lc_list (xs := cutV (ns.map V.int) none (some 61))
      (fun j H2 => Same (upd H p (.lst (cutV (ns.map V.int) none (some 61)))) H2 ∧ H2 D = some (.lst ((((ns.take 61).map absI).take j).map V.int)))
      ⟨sameNew nD, upd_same⟩ (fun j H2 _ h2 => SqL.of (h2.1 _ _ upd_same)) ?_ ?_⟩⟩
    · rintro j x H2 hx ⟨s2, e2⟩
      rw [hcut, List.getElem?_map] at hx
      obtain ⟨z, hz, rfl⟩ := Option.map_eq_some_iff.mp hx
      refine ⟨rfl, .int z, rfl, z, rfl, _, e2, ?_, samePut s2 nD, ?_⟩
      · rw [List.length_map, List.length_take]; simp; exact small (by omega)
      · rw [upd_same, take_snoc (show ((ns.take 61).map absI)[j]? = some (absI z) by rw [List.getElem?_map, hz]; rfl), List.map_append]; rfl
    · rintro H2 ⟨s2, e2⟩
      rw [hcut, List.length_map, List.take_of_length_le (by simp)] at e2
      have s02 : Same H H2 := (sameNew np).trans s2
      -- [0] * int(len(script) == 0)
      refine ⟨by decide, fun p1 n1 => ⟨.ref a, rfl, a, _, rfl, .inl (((s02.trans (sameNew n1))).seq hS), rfl, .inr ⟨_, rfl, p1, _, _, rfl, rfl, upd_same, by split <;> decide, by split <;> decide, by split <;> decide, fun p2 n2 => ?_⟩⟩⟩
      generalize hb : decide (V.int ((List.map V.int ns).length : Int) = V.int 0) = b at n2 ⊢
      have e2' := upNew n2 (o := .lst (List.replicate (if b = true then (1 : Int) else 0).toNat [V.int 0]).flatten) (upNew n1 (o := .lst [.int 0]) e2)
      have hl0 : ns.length = 0 ↔ b = true := by
        rw [← hb, decide_eq_true_eq, List.length_map]
        constructor
        · intro h; rw [h]; rfl
        · intro h; have := V.int.inj h; omega
      have hrep : (List.replicate (if b = true then (1 : Int) else 0).toNat [V.int 0]).flatten = ((if b = true then [0] else []) : List Int).map V.int := by
        cases b <;> rfl
      refine ⟨D, p2, _, _, rfl, rfl, e2', upd_same, ?_, fun C nC => ?_⟩
      · rw [hrep, List.length_map, List.length_map, List.length_map, List.length_take]; have : (if b = true then [0] else [] : List Int).length ≤ 1 := by split <;> simp
        have h5 := small (n := 100) (by omega); omega
      rw [hrep, ← List.map_append] at *
      generalize hcl : (List.take 61 ns).map absI ++ (if b = true then [0] else []) = cells
      have hnn : ∀ c ∈ cells, 0 ≤ c := by
        intro c hc
        rw [← hcl, List.mem_append] at hc
        rcases hc with h | h
        · obtain ⟨i, _, rfl⟩ := List.mem_map.mp h; exact absI_nn i
        · split at h
          · simp at h; omega
          · simp at h
      have hcl0 : 0 < cells.length ∧ cells.length ≤ 62 := by
        rw [← hcl, List.length_append, List.length_map, List.length_take]
        by_cases hb1 : b = true
        · rw [if_pos hb1]; simp; omega
        · rw [if_neg hb1]
          have : ns.length ≠ 0 := fun z => hb1 (hl0.mp z)
          simp; omega
      generalize hHC : upd (upd (upd H2 p1 (.lst [.int 0])) p2 (.lst (((if b = true then [0] else []) : List Int).map V.int))) C (.lst (cells.map V.int)) = HC
      have eC : HC C = some (.lst (cells.map V.int)) := by rw [← hHC]; exact upd_same
      have s0C : Same H HC := by rw [← hHC]; exact ((s02.trans (sameNew n1)).trans (sameNew n2)).trans (sameNew nC)
      refine ⟨.ref C, rfl, .ref C, rfl, C, rfl, ⟨_, SqL.of eC⟩, fun R nR => lc_list (xs := cells.map V.int)
        (fun j H3 => Same HC H3 ∧ H3 R = some (.lst (((cells.map restI).take j).map V.int))) ⟨sameNew nR, upd_same⟩ (fun j H3 _ h3 => SqL.of (h3.1 _ _ eC)) ?_ ?_⟩
      · rintro j x H3 hx ⟨s3, e3⟩
        rw [List.getElem?_map] at hx
        obtain ⟨z, hz, rfl⟩ := Option.map_eq_some_iff.mp hx
        refine ⟨rfl, .int z, rfl, .int z, rfl, _, _, rfl, rfl, ⟨by decide, by decide, by decide⟩, _, _, rfl, rfl, .inr ⟨_, rfl, _, _, rfl, rfl, .inr ⟨by split <;> decide, by split <;> decide⟩, _, e3, ?_, samePut s3 nR, ?_⟩⟩
        · rw [List.length_map, List.length_take, List.length_map]; exact small (by omega)
        · rw [upd_same, List.take_add_one, List.getElem?_map, hz]; simp [restI]
      · rintro H3 ⟨s3, e3⟩
        rw [List.length_map, List.take_of_length_le (by rw [List.length_map]; exact Nat.le_refl _)] at e3
        refine ⟨(show (3 : Nat) ≤ sizeLine by decide), fun st nst => q _ st C R ((s0C.trans s3).trans (sameNew nst)) ⟨upd_same, ⟨cells, cells.map restI, upNew nst (s3 _ _ eC), upNew nst e3, by rw [List.length_map], hcl0.1, by omega, ?_⟩, ne_of_none eC nR, ?_, ?_⟩⟩
        · intro x hx
          obtain ⟨c, hc, rfl⟩ := List.mem_map.mp hx
          exact restI_nn (hnn c hc)
        · exact (ne_of_none (s3 _ _ eC) nst).symm
        · exact (ne_of_none e3 nst).symm
def spOne (K : PySem.W.Frag) : Sp := fun vs H Q _ => ∃ (st c r l : Addr) (t : Nat) (xs : List V), vs = [.ref st, .ref l] ∧ DS H st c r t ∧ t < 1000000 ∧ H l = some (.lst xs) ∧ l ≠ st ∧ l ≠ r ∧ 0 < xs.length ∧ xs.length ≤ 1000 ∧
  ∀ (H' : Hp) (j : Nat) (x : V), xs[j]? = some x → DS H' st c r (t + 1) → Ext st r H H' → Q x H'
theorem ok_one {f fD : Addr} {fd fdD : FuncData} {k : Nat} (F : Fun K "_law_one" "_law_one" sOne f fd)
    (FD : Fun K "_law_next" "_law_next" sDraw fD fdD) (bD : Binds K fdD ["_law_deck_here", "_law_many"] []) (gD : mg "_law_next" = some (.ref fD)) (GD : FnOk P w K mg base CX0 1 fD fdD ["_law_deck_here", "_law_many"] spDraw)
    (ml : mg "len" = none) : FnOk P w K mg base CX0 (1 + k + 1) f fd ["_law_deck_here", "_law_items"] (spOne K) := by
  refine F.ok scOne (fun vs H Q E h => ?_) (fun cdv A outer s H vs Q E hr h => ?_)
  · obtain ⟨st, c, r, l, t, xs, rfl, _⟩ := h; rfl
  · obtain ⟨st, c, r, l, t, xs, rfl, hd, ht, hl, n1, n2, hp, hz, q⟩ := h
    refine ⟨_, pss_one (ps_ret (pe_ix ix_list (pv 1) (pe_call GD (hr.mono (by omega)) (by rfl) gD FD.kp bD .nil pass0 (pa_cons (pv 0) (pa_cons (pe_callB call_len_seq (by rfl) ml PySem.boot_len (pa_cons (pv 1) pa_nil)) pa_nil))) (fun _ _ => rfl))), ?_⟩
    refine ⟨.ref l, rfl, .ref st, rfl, .ref l, rfl, l, _, rfl, .inl (SqL.of hl), st, c, r, t, _, rfl, hd, ht, by omega, by omega, fun H1 d h0 h1 D1 X1 => ?_⟩
    have hj : d.toNat < xs.length := by omega
    have e : xs[d.toNat]? = some xs[d.toNat] := List.getElem?_eq_getElem hj
    refine ⟨l, xs, d, xs[d.toNat], rfl, rfl, SqL.of (X1 _ _ hl n1 n2), ?_, q _ _ _ e D1 X1⟩
    have := atI_nat e
    rwa [Int.toNat_of_nonneg h0] at this
end
end Pv

namespace Pv
open PySem PySem.Spec PyProof.Rows L2
abbrev sWhole : Stmt := topS 1
abbrev sWithin : Stmt := topS 2
abbrev sTupOf : Stmt := topS 3
theorem scWhole : FnScope ["value"] ["value"] (defScope sWhole) := ⟨rfl, rfl, rfl, by decide +kernel, rfl, by decide +kernel, by decide +kernel⟩
theorem scWithin : FnScope ["value", "least", "most"] ["value", "least", "most"] (defScope sWithin) := ⟨rfl, rfl, rfl, by decide +kernel, rfl, by decide +kernel, by decide +kernel⟩
theorem scTupOf : FnScope ["value", "least", "most"] ["value", "least", "most"] (defScope sTupOf) := ⟨rfl, rfl, rfl, by decide +kernel, rfl, by decide +kernel, by decide +kernel⟩

/-! what a value is, by its data -/
def wholeD (d : PyData) : Bool := isInt d && !isBool d
def withinD (a b : Int) : PyData → Bool
  | .int i => decide (a ≤ i ∧ i ≤ b)
  | _ => false
def tupOfD (a b : Int) : PyData → Bool
  | .tuple ds => decide (a ≤ (ds.length : Int) ∧ (ds.length : Int) ≤ b)
  | _ => false
def intsAll : List PyData → Option (List Int)
  | [] => some []
  | .int i :: r => (intsAll r).map (i :: ·)
  | _ :: _ => none
def intsOf : PyData → Option (List Int)
  | .tuple ds => intsAll ds
  | _ => none
theorem intsAll_ints : ∀ row : List Int, intsAll (row.map PyData.int) = some row
  | [] => rfl
  | i :: r => by simp [intsAll, intsAll_ints r]
theorem intsAll_eq : ∀ {ds : List PyData} {row : List Int}, intsAll ds = some row → ds = row.map PyData.int
  | [], row, h => by simp [intsAll] at h; subst h; rfl
  | d :: ds, row, h => by
    cases d <;> simp [intsAll] at h
    obtain ⟨r, h1, rfl⟩ := h
    rw [intsAll_eq h1]; rfl
theorem within_ints : ∀ {ds : List PyData} {a b : Int}, ds.all (withinD a b) = true → ∃ row : List Int, ds = row.map PyData.int ∧ row.all (fun x => decide (a ≤ x ∧ x ≤ b)) = true
  | [], _, _, _ => ⟨[], rfl, rfl⟩
  | d :: ds, a, b, h => by
    rw [List.all_cons, Bool.and_eq_true] at h
    obtain ⟨row, e, h2⟩ := within_ints h.2
    cases d with
    | int i => exact ⟨i :: row, by rw [e]; rfl, by rw [List.all_cons, Bool.and_eq_true]; exact ⟨h.1, h2⟩⟩
    | _ => simp [withinD] at h
section
variable {P : Program} {w : World} {K : PySem.W.Frag} {mg : Str → Option Value} {base : Heap}
def spWhole (K : PySem.W.Frag) : Sp := fun vs H Q _ => ∃ (st r : Addr) (v : V) (d : PyData), vs = [v] ∧ Dq K st r H v d ∧ Q (.bl (wholeD d)) H
theorem ok_whole {f : Addr} {fd : FuncData} {k : Nat} (F : Fun K "is_whole" "is_whole" sWhole f fd) (mi : mg "isinstance" = none) (mint : mg "int" = none) (mb : mg "bool" = none) :
    FnOk P w K mg base CX0 (k + 1) f fd ["value"] (spWhole K) := by
  refine F.ok scWhole (fun vs H Q E h => ?_) (fun cdv A outer s H vs Q E hr h => ?_)
  · obtain ⟨st, r, v, d, rfl, _⟩ := h; rfl
  · obtain ⟨st, r, v, d, rfl, hd, q⟩ := h
    refine ⟨_, pss_one (ps_ret (pe_and (pe_callB call_isi (by rfl) mi (by decide +kernel) (pa_cons (pv 0) (pa_cons (pe_bltn (v := .ty "int") (by rfl) mint (by decide +kernel) rfl) pa_nil)))
      (pe_one (pe_not (pe_callB call_isi (by rfl) mi (by decide +kernel) (pa_cons (pv 0) (pa_cons (pe_bltn (v := .ty "bool") (by rfl) mb (by decide +kernel) rfl) pa_nil))))))), ?_⟩
    refine ⟨v, rfl, v, .ty "int", _, _, _, rfl, .ty _, hd.ty, kit_int d, _, rfl, ite2 (fun h1 => ?_) (fun h1 => ?_)⟩
    · refine ⟨v, rfl, v, .ty "bool", _, _, _, rfl, .ty _, hd.ty, kit_bool d, _, rfl, ?_⟩
      unfold wholeD at q
      rw [h1, Bool.true_and] at q
      exact q
    · unfold wholeD at q
      rw [Bool.eq_false_iff.mpr h1, Bool.false_and] at q
      exact q
def spWithin (K : PySem.W.Frag) : Sp := fun vs H Q _ => ∃ (st r : Addr) (v : V) (d : PyData) (a b : Int), vs = [v, .int a, .int b] ∧ Dq K st r H v d ∧ Q (.bl (withinD a b d)) H
theorem ok_within {f fW : Addr} {fd fdW : FuncData} {k : Nat} (F : Fun K "is_within" "is_within" sWithin f fd) (FW : Fun K "is_whole" "is_whole" sWhole fW fdW) (bW : Binds K fdW ["value"] []) (gW : mg "is_whole" = some (.ref fW))
    (GW : FnOk P w K mg base CX0 1 fW fdW ["value"] (spWhole K)) : FnOk P w K mg base CX0 (1 + k + 1) f fd ["value", "least", "most"] (spWithin K) := by
  refine F.ok scWithin (fun vs H Q E h => ?_) (fun cdv A outer s H vs Q E hr h => ?_)
  · obtain ⟨st, r, v, d, a, b, rfl, _⟩ := h; rfl
  · obtain ⟨st, r, v, d, a, b, rfl, hd, q⟩ := h
    refine ⟨_, pss_one (ps_ret (pe_and (pe_call GW (hr.mono (by omega)) (by rfl) gW FW.kp bW .nil pass0 (pa_cons (pv 0) pa_nil)) (pe_one (pe_chain op_le op_le (pv 1) (pv 0) (pv 2))))), ?_⟩
    refine ⟨v, rfl, st, r, v, d, rfl, hd, _, rfl, ite2 (fun h1 => ?_) (fun h1 => ?_)⟩
    · cases d with
      | int i =>
        cases hd
        refine ⟨.int a, rfl, .int i, rfl, _, _, rfl, rfl, _, rfl, ite2 (fun h2 => ?_) (fun h2 => ?_)⟩
        · refine ⟨.int b, rfl, _, _, rfl, rfl, ?_⟩
          have h2' : a ≤ i := of_decide_eq_true h2
          simpa [withinD, h2'] using q
        · have h2' : ¬ a ≤ i := fun z => h2 (decide_eq_true z)
          simpa [withinD, h2'] using q
      | _ => simp [wholeD, isInt, isBool] at h1
    · cases d with
      | int i => simp [wholeD, isInt, isBool] at h1
      | _ => exact q
def spTupOf (K : PySem.W.Frag) : Sp := fun vs H Q _ => ∃ (st r : Addr) (v : V) (d : PyData) (a b : Int), vs = [v, .int a, .int b] ∧ Dq K st r H v d ∧ Q (.bl (tupOfD a b d)) H
theorem ok_tupOf {f : Addr} {fd : FuncData} {k : Nat} (F : Fun K "is_tuple_of" "is_tuple_of" sTupOf f fd) (mi : mg "isinstance" = none) (mt : mg "tuple" = none) (ml : mg "len" = none) :
    FnOk P w K mg base CX0 (k + 1) f fd ["value", "least", "most"] (spTupOf K) := by
  refine F.ok scTupOf (fun vs H Q E h => ?_) (fun cdv A outer s H vs Q E hr h => ?_)
  · obtain ⟨st, r, v, d, a, b, rfl, _⟩ := h; rfl
  · obtain ⟨st, r, v, d, a, b, rfl, hd, q⟩ := h
    refine ⟨_, pss_one (ps_ret (pe_and (pe_callB call_isi (by rfl) mi (by decide +kernel) (pa_cons (pv 0) (pa_cons (pe_bltn (v := .ty "tuple") (by rfl) mt (by decide +kernel) rfl) pa_nil)))
      (pe_one (pe_chain op_le op_le (pv 1) (pe_callB call_len_seq (by rfl) ml PySem.boot_len (pa_cons (pv 0) pa_nil)) (pv 2))))), ?_⟩
    refine ⟨v, rfl, v, .ty "tuple", _, _, _, rfl, .ty _, hd.ty, kit_tup d, _, rfl, ite2 (fun h1 => ?_) (fun h1 => ?_)⟩
    · cases d with
      | tuple ds =>
        cases hd with
        | @tup p xs _ hT ha =>
          refine ⟨.int a, rfl, .ref p, rfl, p, xs, rfl, .inr hT, _, _, rfl, rfl, _, rfl, ite2 (fun h2 => ?_) (fun h2 => ?_)⟩
          · refine ⟨.int b, rfl, _, _, rfl, rfl, ?_⟩
            have h2' : a ≤ (xs.length : Int) := of_decide_eq_true h2
            simpa [tupOfD, ← DqAll.len ha, h2'] using q
          · have h2' : ¬ a ≤ (xs.length : Int) := fun z => h2 (decide_eq_true z)
            simpa [tupOfD, ← DqAll.len ha, h2'] using q
      | _ => simp [isTup] at h1
    · cases d with
      | tuple ds => simp [isTup] at h1
      | _ => exact q
end
end Pv

namespace Pv
open PySem PySem.Spec PyProof.Rows L2
abbrev sMix : Stmt := topS 29
abbrev sAmo : Stmt := topS 30
theorem scMix : FnScope ["_law_deck_here", "_law_items", "_law_left", "_law_found"] ["_law_deck_here", "_law_items"] (defScope sMix) := ⟨rfl, rfl, rfl, by decide +kernel, rfl, by decide +kernel, by decide +kernel⟩
theorem scAmo : FnScope ["_law_deck_here", "_law_far", "_law_near"] ["_law_deck_here", "_law_far"] (defScope sAmo) := ⟨rfl, rfl, rfl, by decide +kernel, rfl, by decide +kernel, by decide +kernel⟩
theorem lay_ints : ∀ ns : List Int, PyData.canLayAll0 (ns.map PyData.int) = true
  | [] => by simp [PyData.canLayAll0]
  | n :: ns => by simp [PyData.canLayAll0, PyData.canLay0, lay_ints ns]
theorem dep_ints : ∀ ns : List Int, PyData.depthAll (ns.map PyData.int) = 0
  | [] => by simp [PyData.depthAll]
  | n :: ns => by simp [PyData.depthAll, PyData.depth, dep_ints ns]
theorem shaped_ints (ns : List Int) : SeqAt.shaped (.list (ns.map PyData.int)) = true := by
  show (PyData.canLay0 (.list (ns.map PyData.int)) && decide (PyData.depth (.list (ns.map PyData.int)) ≤ 64)) = true
  rw [Bool.and_eq_true]
  refine ⟨by simp only [PyData.canLay0]; exact lay_ints ns, decide_eq_true ?_⟩
  simp only [PyData.depth, dep_ints]; omega
theorem eqv_empty (ds : List PyData) : PyData.eqv (.list ds) (.list []) = ds.isEmpty := by
  cases ds <;> simp [PyData.eqv, PyData.eqvAll]
section
variable {P : Program} {w : World} {K : PySem.W.Frag} {mg : Str → Option Value} {base : Heap}
theorem perm_erase : ∀ (l : List Int) (k : Nat) (h : k < l.length), (l[k] :: l.eraseIdx k).Perm l
  | [], _, h => by simp at h
  | a :: l, 0, _ => by simp
  | a :: l, k + 1, h => by
    have ih := perm_erase l k (by simpa using h)
    simp only [List.getElem_cons_succ, List.eraseIdx_cons_succ]
    exact (List.Perm.swap _ _ _).trans (List.Perm.cons _ ih)
theorem nodup_step {ms l : List Int} {k : Nat} (h : k < l.length) (hn : (ms ++ l).Nodup) : ((ms ++ [l[k]]) ++ l.eraseIdx k).Nodup := by
  rw [List.append_assoc]
  exact (List.Perm.append_left ms (perm_erase l k h)).symm.nodup hn
def spMix (K : PySem.W.Frag) : Sp := fun vs H Q _ => ∃ (st c r l : Addr) (t : Nat) (ns : List Int), vs = [.ref st, .ref l] ∧ DS H st c r t ∧ t + 50 ≤ 1000000 ∧ H l = some (.lst (ns.map V.int)) ∧ ns.length ≤ 50 ∧
  ∀ (H' : Hp) (p : Addr) (ms : List Int), (∀ x ∈ ms, x ∈ ns) → (ns.Nodup → ms.Nodup) → ms.length = ns.length → H' p = some (.lst (ms.map V.int)) → p ≠ st → p ≠ c → p ≠ r → DS H' st c r (t + ns.length) → Ext st r H H' → Q (.ref p) H'
set_option maxHeartbeats 2000000 in
theorem ok_mix {f fD : Addr} {fd fdD : FuncData} {k : Nat} (F : Fun K "_law_mixed" "_law_mixed" sMix f fd)
    (FD : Fun K "_law_next" "_law_next" sDraw fD fdD) (bD : Binds K fdD ["_law_deck_here", "_law_many"] []) (gD : mg "_law_next" = some (.ref fD)) (GD : FnOk P w K mg base CX0 1 fD fdD ["_law_deck_here", "_law_many"] spDraw)
    (mli : mg "list" = none) (ml : mg "len" = none) : FnOk P w K mg base CX0 (1 + k + 1) f fd ["_law_deck_here", "_law_items"] (spMix K) := by
  refine F.ok scMix (fun vs H Q E h => ?_) (fun cdv A outer s H vs Q E hr h => ?_)
  · obtain ⟨st, c, r, l, t, ns, rfl, _⟩ := h; rfl
  · obtain ⟨st, c, r, l, t, ns, rfl, hd, ht, hl, hn, q⟩ := h
    have hu64 : (A.deeper (envOfC "_law_mixed" (defScope sMix) s.heap.objs.size f cdv)).units + 64 < cLine := by have := hr.un; omega
    refine ⟨_, pss_cons (ps_par (i := 2) (j := 3) rfl scMix.nd rfl rfl (by decide) rfl rfl (pa_cons (pe_callTy call_list_of (by rfl) mli (by decide +kernel) (pa_cons (pv 1) pa_nil)) (pa_cons (pe_lst pa_nil) pa_nil)) rfl)
      (pss_cons (ps_while PassesOwn.never (pt_cmpR (op_neD hu64) (pv 2) (pe_lst pa_nil) (nomark _))
        (pss_one (ps_expr (pe_bm PySem.F.plainAttrs_list PySem.F.slot_list_append PySem.F.type_list_append mt_append (pv 3) (pa_cons
          (pe_bm PySem.F.plainAttrs_list PySem.F.slot_list_pop PySem.F.type_list_pop mt_popAt (pv 2) (pa_cons (pe_call GD (hr.mono (by omega)) (by rfl) gD FD.kp bD .nil pass0 (pa_cons (pv 0) (pa_cons (pe_callB call_len_seq (by rfl) ml PySem.boot_len (pa_cons (pv 2) pa_nil)) pa_nil))) pa_nil)) pa_nil)))))
      (pss_one (ps_ret (pv 3)))), ?_⟩
    refine ⟨.ref l, rfl, l, _, rfl, .inl (SqL.of hl), fun Le nLe => ⟨Nat.zero_le _, fun Fo nFo => ⟨_, _, rfl, ?_⟩⟩⟩
    have oLe := hd.off nLe
    have d1 := hd.new nLe (o := .lst (ns.map V.int))
    have oFo := d1.off nFo
    have fFo : H Fo = none := freeOf nFo
    have nLF : Le ≠ Fo := ne_of_none upd_same nFo
    refine ⟨fun m σ H2 => ∃ (ls ms : List Int) (t2 : Nat), σ = [some (.ref st), some (.ref l), some (.ref Le), some (.ref Fo)] ∧ ls.length = m ∧ DS H2 st c r t2 ∧ t2 = t + ms.length ∧ Ext st r H H2 ∧
        H2 Le = some (.lst (ls.map V.int)) ∧ H2 Fo = some (.lst (ms.map V.int)) ∧ ls.length + ms.length = ns.length ∧ (∀ x ∈ ls, x ∈ ns) ∧ (∀ x ∈ ms, x ∈ ns) ∧ (ns.Nodup → (ms ++ ls).Nodup),
      ⟨ns.length, ns, [], t, rfl, rfl, d1.new nFo, rfl, (Ext.of (sameNew nLe)).trans (Ext.of (sameNew nFo)), upNew nFo upd_same, upd_same, rfl, fun x h => h, fun x h => by simp at h, fun h => by simpa using h⟩, ?_⟩
    rintro m σ H2 ⟨ls, ms, t2, rfl, rfl, d2, ht2, x2, eL, eF, hlen, bl, bm, bn⟩
    refine ⟨.ref Le, rfl, Nat.zero_le _, fun p np => ⟨.list (ls.map PyData.int), .list [], .lst (SqL.of (upNew np eL)) (dp_ints ls), .lst (SqL.of upd_same) .nil, shaped_ints ls, by decide, _, rfl, ?_⟩⟩
    rw [eqv_empty]
    have oN := d2.off np
    have eL2 := upNew np (o := .lst []) eL
    have eF2 := upNew np (o := .lst []) eF
    cases ls with
    | nil =>
      have hml : ms.length = ns.length := by simpa using hlen
      have dz : DS (upd H2 p (.lst [])) st c r (t + ns.length) := by rw [← hml, ← ht2]; exact d2.new np
      exact ⟨.ref Fo, rfl, q _ Fo ms bm (fun z => by simpa using bn z) hml eF2 oFo.1 oFo.2.1 oFo.2.2 dz (x2.trans (Ext.of (sameNew np)))⟩
    | cons a ls' =>
      have hpos : 0 < (a :: ls').length := by simp
      refine ⟨fun σ' H' => ∃ (ls2 ms2 : List Int) (t2 : Nat), σ' = [some (.ref st), some (.ref l), some (.ref Le), some (.ref Fo)] ∧ ls2.length = ls'.length ∧ DS H' st c r t2 ∧ t2 = t + ms2.length ∧ Ext st r H H' ∧
        H' Le = some (.lst (ls2.map V.int)) ∧ H' Fo = some (.lst (ms2.map V.int)) ∧ ls2.length + ms2.length = ns.length ∧ (∀ x ∈ ls2, x ∈ ns) ∧ (∀ x ∈ ms2, x ∈ ns) ∧ (ns.Nodup → (ms2 ++ ls2).Nodup), ?_, ?_⟩
      · rintro σ' H' ⟨ls2, ms2, t3, e1, e2, r3⟩
        exact ⟨ls'.length, by simp, ls2, ms2, t3, e1, e2, r3⟩
      · refine ⟨.ref Fo, rfl, .inl ⟨rfl, _, SqL.of eF2⟩, .ref Le, rfl, .inl ⟨rfl, _, SqL.of eL2⟩, .ref st, rfl, .ref Le, rfl, Le, _, rfl, .inl (SqL.of eL2), st, c, r, t2, _, rfl, d2.new np, by omega, by rw [List.length_map]; omega, by rw [List.length_map]; omega, fun H3 d h0 h1 D3 X3 => ?_⟩
        have eL3 := X3 _ _ eL2 oLe.1 oLe.2.2
        have eF3 := X3 _ _ eF2 oFo.1 oFo.2.2
        rw [List.length_map] at h1
        have hk : d.toNat < (a :: ls').length := by omega
        have eF4 : (upd H3 Le (.lst (((a :: ls').map V.int).eraseIdx d.toNat))) Fo = some (.lst (ms.map V.int)) := by rw [upd_ne nLF.symm]; exact eF3
        refine ⟨Le, _, d, d.toNat, .int (a :: ls')[d.toNat], rfl, rfl, eL3, by omega, by simp at hlen h1; omega, seqIndex_of h0 (by rw [List.length_map]; exact h1), by rw [List.getElem?_map, List.getElem?_eq_getElem hk]; rfl, Fo, _, _, rfl, rfl, eF4, ?_, ?_⟩
        · rw [List.length_map]; exact small (by simp at hlen; omega)
        refine ⟨(a :: ls').eraseIdx d.toNat, ms ++ [(a :: ls')[d.toNat]], t2 + 1, rfl, ?_, (D3.put oLe.1 oLe.2.1 oLe.2.2).put oFo.1 oFo.2.1 oFo.2.2, by simp; omega, ExtPut (ExtPut ((x2.trans (Ext.of (sameNew np))).trans X3) nLe) fFo, ?_, ?_, ?_, ?_, ?_, fun z => nodup_step hk (bn z)⟩
        · rw [List.length_eraseIdx_of_lt hk]; simp
        · rw [upd_ne nLF, upd_same, erase_map]
        · rw [upd_same, List.map_append]; rfl
        · rw [List.length_eraseIdx_of_lt hk]; simp at hlen ⊢; omega
        · exact fun x hx => bl x (List.mem_of_mem_eraseIdx hx)
        · intro x hx
          rw [List.mem_append] at hx
          rcases hx with h | h
          · exact bm x h
          · simp only [List.mem_singleton] at h; rw [h]; exact bl _ (List.getElem_mem hk)
def spAmo (K : PySem.W.Frag) : Sp := fun vs H Q _ => ∃ (st c r : Addr) (t : Nat) (far : Int), vs = [.ref st, .int far] ∧ DS H st c r t ∧ t + 10 ≤ 1000000 ∧
  ∀ (H' : Hp) (d : Int) (t' : Nat), 1 ≤ d → d ≤ 10 ^ 12 → DS H' st c r t' → t' ≤ t + 5 → Ext st r H H' → Q (.int d) H'
set_option maxHeartbeats 2000000 in
theorem ok_amo {f fD fO : Addr} {fd fdD fdO : FuncData} {k : Nat} (F : Fun K "_law_amount" "_law_amount" sAmo f fd)
    (FD : Fun K "_law_next" "_law_next" sDraw fD fdD) (bD : Binds K fdD ["_law_deck_here", "_law_many"] []) (gD : mg "_law_next" = some (.ref fD)) (GD : FnOk P w K mg base CX0 1 fD fdD ["_law_deck_here", "_law_many"] spDraw)
    (FO : Fun K "_law_one" "_law_one" sOne fO fdO) (bO : Binds K fdO ["_law_deck_here", "_law_items"] []) (gO : mg "_law_one" = some (.ref fO)) (GO : FnOk P w K mg base CX0 2 fO fdO ["_law_deck_here", "_law_items"] (spOne K)) :
    FnOk P w K mg base CX0 (2 + k + 1) f fd ["_law_deck_here", "_law_far"] (spAmo K) := by
  refine F.ok scAmo (fun vs H Q E h => ?_) (fun cdv A outer s H vs Q E hr h => ?_)
  · obtain ⟨st, c, r, t, far, rfl, _⟩ := h; rfl
  · obtain ⟨st, c, r, t, far, rfl, hd, ht, q⟩ := h
    refine ⟨_, pss_cons (ps_if (pt_cmpR op_eq (pv 1) pe_int (nomark _)) (pss_one (ps_ret (pe_op op_add pe_int (pe_call GD (hr.mono (by omega)) (by rfl) gD FD.kp bD .nil pass0 (pa_cons (pv 0) (pa_cons
          (pe_call GO (hr.mono (by omega)) (by rfl) gO FO.kp bO .nil pass0 (pa_cons (pv 0) (pa_cons (pe_lst (pa_cons pe_int (pa_cons pe_int (pa_cons pe_int pa_nil)))) pa_nil))) pa_nil)))))) pss_nil)
      (pss_cons (ps_set (i := 2) scAmo.nd rfl (.inl rfl) (pe_op op_sub (pe_op op_pow pe_int pe_int) (pe_call GD (hr.mono (by omega)) (by rfl) gD FD.kp bD .nil pass0 (pa_cons (pv 0) (pa_cons pe_int pa_nil)))))
      (pss_one (ps_ret (pe_call GO (hr.mono (by omega)) (by rfl) gO FO.kp bO .nil pass0 (pa_cons (pv 0) (pa_cons (pe_lst (pa_cons (pe_op op_add pe_int (pe_call GD (hr.mono (by omega)) (by rfl) gD FD.kp bD .nil pass0 (pa_cons (pv 0) (pa_cons pe_int pa_nil))))
        (pa_cons (pe_op op_pow pe_int pe_int) (pa_cons (pv 2) (pa_cons (pe_op op_add pe_int (pe_call GD (hr.mono (by omega)) (by rfl) gD FD.kp bD .nil pass0 (pa_cons (pv 0) (pa_cons (pe_op op_pow pe_int pe_int) pa_nil)))) pa_nil))))) pa_nil)))))), ?_⟩
    refine ⟨.int far, rfl, rfl, _, rfl, ite2 (fun h1 => ?_) (fun h1 => ?_)⟩
    · refine ⟨.ref st, rfl, .ref st, rfl, (show (3 : Nat) ≤ sizeLine by decide), fun L nL => ⟨st, c, r, L, t, _, rfl, hd.new nL, by omega, upd_same, (hd.off nL).1, (hd.off nL).2.2, by decide, by decide, fun H1 j x hx D1 X1 => ?_⟩⟩
      obtain ⟨m, rfl, hm1, hm2⟩ : ∃ m : Int, x = .int m ∧ 1 ≤ m ∧ m ≤ 9 := by
        match j, hx with
        | 0, hx => cases hx; exact ⟨2, rfl, by decide, by decide⟩
        | 1, hx => cases hx; exact ⟨3, rfl, by decide, by decide⟩
        | 2, hx => cases hx; exact ⟨9, rfl, by decide, by decide⟩
        | n + 3, hx => simp at hx
      refine ⟨st, c, r, t + 1, m, rfl, D1, by omega, by omega, by omega, fun H2 d h0 h2 D2 X2 => ⟨_, _, rfl, rfl, ?_⟩⟩
      exact q _ _ (t + 2) (by omega) (by omega) D2 (by omega) (((Ext.of (sameNew nL)).trans X1).trans X2)
    · refine ⟨_, _, rfl, rfl, ⟨by decide, by decide, by decide⟩, .ref st, rfl, st, c, r, t, _, rfl, hd, by omega, by decide, by decide, fun H1 d1 h10 h11 D1 X1 => ⟨_, _, rfl, rfl, ?_⟩⟩
      refine ⟨.ref st, rfl, .ref st, rfl, st, c, r, t + 1, _, rfl, D1, by omega, by decide, by decide, fun H2 d2 h20 h21 D2 X2 => ⟨_, _, rfl, rfl, ?_⟩⟩
      refine ⟨_, _, rfl, rfl, ⟨by decide, by decide, by decide⟩, _, rfl, .ref st, rfl, _, _, rfl, rfl, ⟨by decide, by decide, by decide⟩, st, c, r, t + 2, _, rfl, D2, by omega, by decide, by decide, fun H3 d3 h30 h31 D3 X3 => ⟨_, _, rfl, rfl, ?_⟩⟩
      refine ⟨(show (4 : Nat) ≤ sizeLine by decide), fun L nL => ⟨st, c, r, L, t + 3, _, rfl, D3.new nL, by omega, upd_same, (D3.off nL).1, (D3.off nL).2.2, (show (0 : Nat) < 4 by decide), (show (4 : Nat) ≤ 1000 by decide), fun H4 j x hx D4 X4 => ?_⟩⟩
      have XX : Ext st r H H4 := (((X1.trans X2).trans X3).trans (Ext.of (sameNew nL))).trans X4
      have t12 : (10 : Int) ^ (12 : Int).toNat = 1000000000000 := by decide
      match j, hx with
      | 0, hx => cases hx; exact q _ _ (t + 4) (by omega) (by omega) D4 (by omega) XX
      | 1, hx => cases hx; exact q _ _ (t + 4) (by decide) (by decide) D4 (by omega) XX
      | 2, hx => cases hx; exact q _ _ (t + 4) (by rw [t12]; omega) (by rw [t12]; omega) D4 (by omega) XX
      | 3, hx => cases hx; rw [t12] at h31; exact q _ _ (t + 4) (by omega) (by omega) D4 (by omega) XX
      | n + 4, hx => simp at hx
end
end Pv

namespace Pv
open PySem PySem.Spec PyProof.Rows L2
abbrev sInst : Stmt := topS 31
theorem scInst : FnScope ["_law_deck_here", "_law_posts", "_law_groups", "_law_far", "_law_many", "_law_rows", "_law_k", "_law_wish", "_law_sizes", "_law_post", "_law_near", "_law_count"] ["_law_deck_here", "_law_posts", "_law_groups", "_law_far"] (defScope sInst) := ⟨rfl, rfl, rfl, by decide +kernel, rfl, by decide +kernel, by decide +kernel⟩
theorem upTo_nodup (n : Nat) : (upTo n).Nodup := by
  unfold upTo
  show List.Pairwise _ _
  rw [List.pairwise_map]
  exact List.Pairwise.imp (fun h hab => h (Int.ofNat.inj hab)) (List.nodup_range (n := n))
theorem lay_grps : ∀ gs : List Gp, PyData.canLayAll0 (gs.map dGrp) = true ∧ PyData.depthAll (gs.map dGrp) ≤ 2
  | [] => by simp [PyData.canLayAll0, PyData.depthAll]
  | g :: gs => by
    obtain ⟨h1, h2⟩ := lay_grps gs
    have l := lay_ints g.1
    have d := dep_ints g.1
    constructor
    · simp [PyData.canLayAll0, PyData.canLay0, dGrp, dI, l, h1]
    · simp only [List.map_cons, PyData.depthAll, PyData.depth, dGrp, dI, d]
      omega
theorem shaped_grps (gs : List Gp) : SeqAt.shaped (.list (gs.map dGrp)) = true := by
  obtain ⟨h1, h2⟩ := lay_grps gs
  show (PyData.canLay0 (.list (gs.map dGrp)) && decide (PyData.depth (.list (gs.map dGrp)) ≤ 64)) = true
  rw [Bool.and_eq_true]
  refine ⟨by simp only [PyData.canLay0]; exact h1, decide_eq_true ?_⟩
  simp only [PyData.depth]; omega
theorem shaped_dI (ns : List Int) : SeqAt.shaped (dI ns) = true := by
  show (PyData.canLay0 (dI ns) && decide (PyData.depth (dI ns) ≤ 64)) = true
  rw [Bool.and_eq_true]
  refine ⟨by simp only [dI, PyData.canLay0]; exact lay_ints ns, decide_eq_true ?_⟩
  simp only [dI, PyData.depth, dep_ints]; omega
theorem eqv_ints : ∀ a b : List Int, PyData.eqv (dI a) (dI b) = decide (a = b)
  | [], [] => by simp [dI, PyData.eqv, PyData.eqvAll]
  | [], y :: b => by simp [dI, PyData.eqv, PyData.eqvAll]
  | x :: a, [] => by simp [dI, PyData.eqv, PyData.eqvAll]
  | x :: a, y :: b => by
    have ih := eqv_ints a b
    simp only [dI, PyData.eqv] at ih
    simp only [dI, PyData.eqv, List.map_cons, PyData.eqvAll, ih]
    by_cases h1 : x = y
    · subst h1; simp
    · simp [h1]
section
variable {P : Program} {w : World} {K : PySem.W.Frag} {mg : Str → Option Value} {base : Heap}
/-- wish[:1] == (post,): the list's first -/
theorem first_eq {H : Hp} {a : Addr} {ps : List Int} (hP : SqT K H a (ps.map V.int)) {Q : VK} (h : ∀ (H' : Hp) (b : Addr), Same H H' → SqT K H' b ((ps.take 1).map V.int) → Q (.ref b) H') : rSlA K (.ref a) none (some 1) H Q := by
  have hcut : cutV (ps.map V.int) none (some 1) = (ps.take 1).map V.int := by rw [List.map_take]; exact cut_to _ 1
  refine ⟨a, _, rfl, hP, fun hw => ?_, fun _ p np => ?_⟩
  · refine h H a (Same.refl _) ?_
    have e : (ps.take 1).map V.int = ps.map V.int := by
      rw [← hcut]
      unfold cutV
      rw [hw.1, hw.2, List.drop_zero, Nat.sub_zero, List.take_length]
    rw [e]; exact hP
  · refine h _ p (sameNew np) (SqT.of ?_)
    rw [upd_same, hcut]
def spInst (K : PySem.W.Frag) : Sp := fun vs H Q _ => ∃ (st c r : Addr) (t : Nat) (gm far : Int), vs = [.ref st, .int 6, .int gm, .int far] ∧ DS H st c r t ∧ t + 500 ≤ 1000000 ∧ 1 ≤ gm ∧ gm ≤ 10 ∧
  ∀ (H' : Hp) (p : Addr) (t' : Nat) (cs : List Int) (gs : List Gp), DS H' st c r t' → t' ≤ t + 500 → Ext st r H H' → Dp K H' (.ref p) (dInst cs gs) → InsOk cs gs → (∀ g ∈ gs, g.1.Nodup) → Q (.ref p) H'
set_option maxHeartbeats 8000000 in
theorem ok_inst {f fD fO fM fA : Addr} {fd fdD fdO fdM fdA : FuncData} {k : Nat} (F : Fun K "_law_instance" "_law_instance" sInst f fd)
    (FD : Fun K "_law_next" "_law_next" sDraw fD fdD) (bD : Binds K fdD ["_law_deck_here", "_law_many"] []) (gD : mg "_law_next" = some (.ref fD)) (GD : FnOk P w K mg base CX0 1 fD fdD ["_law_deck_here", "_law_many"] spDraw)
    (FO : Fun K "_law_one" "_law_one" sOne fO fdO) (bO : Binds K fdO ["_law_deck_here", "_law_items"] []) (gO : mg "_law_one" = some (.ref fO)) (GO : FnOk P w K mg base CX0 2 fO fdO ["_law_deck_here", "_law_items"] (spOne K))
    (FM : Fun K "_law_mixed" "_law_mixed" sMix fM fdM) (bM : Binds K fdM ["_law_deck_here", "_law_items"] []) (gM : mg "_law_mixed" = some (.ref fM)) (GM : FnOk P w K mg base CX0 2 fM fdM ["_law_deck_here", "_law_items"] (spMix K))
    (FA : Fun K "_law_amount" "_law_amount" sAmo fA fdA) (bA : Binds K fdA ["_law_deck_here", "_law_far"] []) (gA : mg "_law_amount" = some (.ref fA)) (GA : FnOk P w K mg base CX0 3 fA fdA ["_law_deck_here", "_law_far"] (spAmo K))
    (mt : mg "tuple" = none) (mr : mg "range" = none) (mli : mg "list" = none) (ms : mg "sum" = none) (mmx : mg "max" = none) (mmn : mg "min" = none) :
    FnOk P w K mg base CX0 (3 + k + 1) f fd ["_law_deck_here", "_law_posts", "_law_groups", "_law_far"] (spInst K) := by
  refine F.ok scInst (fun vs H Q E h => ?_) (fun cdv A outer s H vs Q E hr h => ?_)
  · obtain ⟨st, c, r, t, gm, m, rfl, _⟩ := h; rfl
  · obtain ⟨st, c, r, t, gm, far, rfl, hd, ht, hgm1, hgm2, q⟩ := h
    have hu64 : (A.deeper (envOfC "_law_instance" (defScope sInst) s.heap.objs.size f cdv)).units + 64 < cLine := by have := hr.un; omega
    refine ⟨_, pss_cons (ps_set (i := 4) scInst.nd rfl (.inl rfl) (pe_op op_add pe_int (pe_call GD (hr.mono (by omega)) (by rfl) gD FD.kp bD .nil pass0 (pa_cons (pv 0) (pa_cons (pv 1) pa_nil)))))
      (pss_cons (ps_set (i := 5) scInst.nd rfl (.inl rfl) (pe_lst pa_nil))
      (pss_cons (ps_for PassesOwn.never rfl (pi_range1 (by rfl) mr (pa_cons (pe_op op_add pe_int (pe_call GD (hr.mono (by omega)) (by rfl) gD FD.kp bD .nil pass0 (pa_cons (pv 0) (pa_cons (pv 2) pa_nil)))) pa_nil)) (pg_name (i := 6) scInst.nd rfl (.inl rfl))
        (pss_cons (ps_set (i := 7) scInst.nd rfl (.inl rfl) (pe_slice sl_list (pe_call GM (hr.mono (by omega)) (by rfl) gM FM.kp bM .nil pass0 (pa_cons (pv 0) (pa_cons (pe_listRg rfl (by rfl) mli (prg_1 (by rfl) mr (pv 4))) pa_nil))) po_none
            (po_some (pe_call GD (hr.mono (by omega)) (by rfl) gD FD.kp bD .nil pass0 (pa_cons (pv 0) (pa_cons (pe_op op_add (pv 4) pe_int) pa_nil))))))
        (C8.pss_cut (ps_if (PW.pt (pw_and (pt_cmpR (op_neD hu64) (pv 5) (pe_lst pa_nil) (nomark _)) (pw_and1 (pt_cmpR op_eq (pe_call GD (hr.mono (by omega)) (by rfl) gD FD.kp bD .nil pass0 (pa_cons (pv 0) (pa_cons pe_int pa_nil))) pe_int (nomark _)))))
            (pss_one (ps_set (i := 7) scInst.nd rfl (.inl rfl) (pe_callTy call_list_of (by rfl) mli (by decide +kernel) (pa_cons (pe_ix ix_tup (pe_call GO (hr.mono (by omega)) (by rfl) gO FO.kp bO .nil pass0 (pa_cons (pv 0) (pa_cons (pv 5) pa_nil))) pe_int (fun _ _ => rfl)) pa_nil)))) pss_nil)
        (pss_one (ps_expr (pe_bm PySem.F.plainAttrs_list PySem.F.slot_list_append PySem.F.type_list_append mt_append (pv 5) (pa_cons (pe_tup (pa_cons (pe_callTy call_tuple_of (by rfl) mt (by decide +kernel) (pa_cons (pv 7) pa_nil))
          (pa_cons (pe_call GA (hr.mono (by omega)) (by rfl) gA FA.kp bA .nil pass0 (pa_cons (pv 0) (pa_cons (pv 3) pa_nil))) pa_nil))) pa_nil)))))))
      (pss_cons (ps_set (i := 8) scInst.nd rfl (.inl rfl) (pe_lst pa_nil))
      (pss_cons (ps_for PassesOwn.never rfl (pi_range1 (by rfl) mr (pa_cons (pv 4) pa_nil)) (pg_name (i := 9) scInst.nd rfl (.inr rfl))
        (pss_cons (ps_set (i := 10) scInst.nd rfl (.inl rfl) (pe_op op_sub (pe_op op_add (pe_callB (cr_sum rfl) (by rfl) ms (by decide +kernel) (pa_cons
            (pe_lc (own := [("_law_wish", 7), ("_law_count", 11)]) (g := gTup K 2 (gCons (gName 7) (gCons (gName 11) gNil))) (tt := tTest (tOp (rEqD K) (tSl (rSlA K) (tVar 7) tNoPart (tPart (tC (.int 1)))) (tTup (tCons (tVar 9) tNil)))) (te := tVar 11) rfl scInst.nd (pi_list (pv 5))
              (blkOk_by (N := ["_law_deck_here", "_law_posts", "_law_groups", "_law_far", "_law_many", "_law_rows", "_law_k", "_law_wish", "_law_sizes", "_law_post", "_law_near", "_law_count"]) (sc := defScope sInst) (by decide +kernel))
              (fun _ _ _ _ _ => pg_tup rfl (pgs_cons (pg_name (i := 7) scInst.nd rfl (.inl rfl)) (pgs_cons (pg_name (i := 11) scInst.nd rfl (.inl rfl)) pgs_nil)))
              (fun _ _ _ _ _ => pts_one (pt_cmpR (op_eqD hu64) (pe_slice sl_tupA (pv 7) po_none (po_some pe_int)) (pe_tup (pa_cons (pv 9) pa_nil)) (nomark _)))
              (fun _ _ _ _ _ => pv 11)) pa_nil))
            (pe_call GD (hr.mono (by omega)) (by rfl) gD FD.kp bD .nil pass0 (pa_cons (pv 0) (pa_cons pe_int pa_nil)))) pe_int))
        (pss_one (ps_expr (pe_bm PySem.F.plainAttrs_list PySem.F.slot_list_append PySem.F.type_list_append mt_append (pv 8) (pa_cons (pe_call GO (hr.mono (by omega)) (by rfl) gO FO.kp bO .nil pass0 (pa_cons (pv 0) (pa_cons
            (pe_lst (pa_cons (pe_call GA (hr.mono (by omega)) (by rfl) gA FA.kp bA .nil pass0 (pa_cons (pv 0) (pa_cons (pv 3) pa_nil))) (pa_cons (pe_callB (call_max2 rfl) (by rfl) mmx (by decide +kernel) (pa_cons pe_int (pa_cons
              (pe_callB (call_min2 rfl) (by rfl) mmn (by decide +kernel) (pa_cons (pe_op op_pow pe_int pe_int) (pa_cons (pv 10) pa_nil))) pa_nil))) pa_nil))) pa_nil))) pa_nil))))))
      (pss_one (ps_ret (pe_tup (pa_cons (pe_callTy call_tuple_of (by rfl) mt (by decide +kernel) (pa_cons (pv 8) pa_nil)) (pa_cons (pe_callTy call_tuple_of (by rfl) mt (by decide +kernel) (pa_cons (pv 5) pa_nil)) pa_nil))))))))), ?_⟩
    refine ⟨.ref st, rfl, .int 6, rfl, st, c, r, t, _, rfl, hd, by omega, by decide, by decide, fun H1 d1 h10 h11 D1 X1 => ⟨_, _, rfl, rfl, ?_⟩⟩
    obtain ⟨n, hn⟩ : ∃ n : Nat, 1 + d1 = (n : Int) := ⟨(1 + d1).toNat, by omega⟩
    have hn6 : 1 ≤ n ∧ n ≤ 6 := by omega
    dsimp only
    rw [hn]
    refine ⟨Nat.zero_le _, fun Rw nRw => ?_⟩
    have oRw := D1.off nRw
    have fRw := X1.nil D1 nRw
    have D1' := D1.new nRw (o := .lst [])
    refine ⟨.ref st, rfl, .int gm, rfl, st, c, r, t + 1, _, rfl, D1', by omega, by omega, by omega, fun H2 d2 h20 h21 D2 X2 => ⟨_, _, rfl, rfl, ?_⟩⟩
    refine ⟨1 + d2, rfl, by omega, by omega, for_it (walk_range (lo := 0) (n := (1 + d2).toNat))
      (fun i σ H4 => ∃ (y6 y7 : Option V) (t4 : Nat) (vs : List V) (gs : List Gp), σ = [some (.ref st), some (.int 6), some (.int gm), some (.int far), some (.int n), some (.ref Rw), y6, y7, none, none, none, none] ∧ DS H4 st c r t4 ∧ t4 ≤ t + 2 + 20 * i ∧ Ext st r H H4 ∧
        H4 Rw = some (.lst vs) ∧ DpAll K H4 vs (gs.map dGrp) ∧ gs.length = i ∧ ∀ g ∈ gs, g.1.length ≤ 6 ∧ (∀ p ∈ g.1, 0 ≤ p ∧ p < (n : Int)) ∧ (1 ≤ g.2 ∧ g.2 ≤ 10 ^ 12) ∧ g.1.Nodup)
      ⟨none, none, t + 2, [], [], rfl, D2, by omega, (X1.trans (Ext.of (sameNew nRw))).trans X2, X2 _ _ upd_same oRw.1 oRw.2.2, .nil, rfl, fun g h => by simp at h⟩ (fun _ _ _ _ _ => trivial) ?_ ?_⟩
    · rintro i v σ H4 H4' hlt ⟨y6, y7, t4, vs, gs, rfl, d4, ht4, x4, eR, hvs, lgs, bgs⟩ ⟨rfl, rfl⟩
      have hi10 : i < 10 := by omega
      have hvl : vs.length = i := by rw [DpAll.len hvs, List.length_map, lgs]
      -- wish
      refine ⟨.ref st, rfl, .int n, rfl, n, rfl, RgOk.of_le (by omega) (by omega) (by omega) (by omega), fun Lr nLr => ?_⟩
      refine ⟨st, c, r, Lr, t4, upTo n, rfl, d4.new nLr, by omega, by rw [upd_same, rgV_upTo], by rw [upTo_len]; omega, fun H5 p5 ms hms hmn hml e5 n1 n2 n3 D5 X5 => ?_⟩
      rw [upTo_len] at hml D5
      refine ⟨.ref st, rfl, .int n, rfl, _, _, rfl, rfl, st, c, r, t4 + n, _, rfl, D5, by omega, by omega, by omega, fun H6 d6 h60 h61 D6 X6 => ⟨d6, rfl, p5, _, rfl, SqL.of (X6 _ _ e5 n1 n3), fun W nW => ?_⟩⟩
      have tk45 : TupK H4' H6 := ((TupK.new nLr).trans (X5.tup (d4.new nLr))).trans (X6.tup D5)
      have x6 := ((x4.trans (Ext.of (sameNew nLr))).trans X5).trans X6
      have eR6 := X6 _ _ (X5 _ _ (upNew nLr eR) oRw.1 oRw.2.2) oRw.1 oRw.2.2
      obtain ⟨dn, rfl⟩ : ∃ dn : Nat, d6 = dn := ⟨d6.toNat, by omega⟩
      have hcut : cutV (ms.map V.int) none (some (dn : Int)) = (ms.take dn).map V.int := by rw [List.map_take]; exact cut_to _ dn
      -- the list perhaps of an earlier row
      refine ⟨fun σ' H' => ∃ (z6 : Option V) (Wa : Addr) (ws : List Int) (t7 : Nat), σ' = [some (.ref st), some (.int 6), some (.int gm), some (.int far), some (.int n), some (.ref Rw), z6, some (.ref Wa), none, none, none, none] ∧
        H' Wa = some (.lst (ws.map V.int)) ∧ ws.length ≤ 6 ∧ (∀ p ∈ ws, 0 ≤ p ∧ p < (n : Int)) ∧ ws.Nodup ∧ DS H' st c r t7 ∧ t7 ≤ t4 + 12 ∧ Ext st r H H' ∧ H' Rw = some (.lst vs) ∧ TupK H4' H', ?_, ?_⟩
      · refine ⟨.ref Rw, rfl, Nat.zero_le _, fun p np => ⟨.list (gs.map dGrp), .list [], .lst (SqL.of (upNew np (upNew nW eR6))) ((((tk45.trans (TupK.new nW)).trans (TupK.new np)).dpAll _ _ (to_grps _) hvs)), .lst (SqL.of upd_same) .nil, shaped_grps gs, by decide, _, rfl, ?_⟩⟩
        rw [eqv_empty]
        have eWp : (upd (upd H6 W (.lst (cutV (ms.map V.int) none (some (dn : Int))))) p (.lst [])) W = some (.lst ((ms.take dn).map V.int)) := upNew np (by rw [upd_same, hcut])
        have bW : ∀ x ∈ ms.take dn, 0 ≤ x ∧ x < (n : Int) := fun x hx => upTo_mem (hms x (List.mem_of_mem_take hx))
        have nW' : (ms.take dn).Nodup := (List.take_sublist dn ms).nodup (hmn (upTo_nodup n))
        have lW : (ms.take dn).length ≤ 6 := by rw [List.length_take]; omega
        have Dp' := (D6.new nW (o := .lst (cutV (ms.map V.int) none (some (dn : Int))))).new np (o := .lst [])
        have xp := (x6.trans (Ext.of (sameNew nW (o := .lst (cutV (ms.map V.int) none (some (dn : Int))))))).trans (Ext.of (sameNew np (o := .lst [])))
        have eRp := upNew np (o := .lst []) (upNew nW (o := .lst (cutV (ms.map V.int) none (some (dn : Int)))) eR6)
        have tkp := (tk45.trans (TupK.new nW (o := .lst (cutV (ms.map V.int) none (some (dn : Int)))))).trans (TupK.new np (o := .lst []))
        have oW := D6.off nW
        have hgse : gs = [] ∨ 0 < gs.length := by cases gs <;> simp
        rcases hgse with rfl | hpos
        · exact ⟨_, W, _, t4 + n + 1, rfl, eWp, lW, bW, nW', Dp', by omega, xp, eRp, tkp⟩
        · have he : (!(gs.map dGrp).isEmpty) = true := by cases gs <;> simp at hpos ⊢
          rw [he]
          refine iteT ?_
          refine ⟨.ref st, rfl, st, c, r, t4 + n + 1, _, rfl, Dp', by omega, by decide, by decide, fun H8 d8 h80 h81 D8 X8 => ⟨rfl, _, rfl, ite2 (fun h1 => ?_) (fun h1 => ?_)⟩⟩
          · have eR8 := X8 _ _ eRp oRw.1 oRw.2.2
            refine ⟨.ref st, rfl, .ref Rw, rfl, st, c, r, Rw, t4 + n + 1 + 1, vs, rfl, D8, by omega, eR8, oRw.1, oRw.2.2, by omega, by omega, fun H9 j x hx D9 X9 => ?_⟩
            obtain ⟨dd, hdd, hxd⟩ := DpAll.at hvs hx
            rw [List.getElem?_map] at hdd
            obtain ⟨g, hgi, rfl⟩ := Option.map_eq_some_iff.mp hdd
            have tk9 := (tkp.trans (X8.tup Dp')).trans (X9.tup D8)
            obtain ⟨gAd, pA, rfl, hG, hP⟩ := grp_ref (tk9.dp _ _ (to_dGrp g) hxd)
            have hb := bgs g (List.mem_of_getElem? hgi)
            refine ⟨gAd, _, 0, .ref pA, rfl, rfl, hG, atI_nat (j := 0) rfl, pA, _, rfl, .inr hP, fun W2 nW2 => ?_⟩
            exact ⟨_, W2, g.1, t4 + n + 1 + 1 + 1, rfl, upd_same, hb.1, hb.2.1, hb.2.2.2, D9.new nW2, by omega, ((xp.trans X8).trans X9).trans (Ext.of (sameNew nW2)), upNew nW2 (X9 _ _ eR8 oRw.1 oRw.2.2), tk9.trans (TupK.new nW2)⟩
          · exact ⟨_, W, _, t4 + n + 1 + 1, rfl, X8 _ _ eWp oW.1 oW.2.2, lW, bW, nW', D8, by omega, xp.trans X8, X8 _ _ eRp oRw.1 oRw.2.2, tkp.trans (X8.tup Dp')⟩
      · rintro σ' H7 ⟨z6, Wa, ws, t7, rfl, eW7, lW7, bW7, nW7, d7, ht7, x7, eR7, tk7⟩
        refine ⟨.ref Rw, rfl, .inl ⟨rfl, _, SqL.of eR7⟩, .ref Wa, rfl, Wa, _, rfl, .inl ⟨SqL.of eW7, fun Tp nTp => ?_⟩⟩
        refine ⟨.ref st, rfl, .int far, rfl, st, c, r, t7, far, rfl, d7.new nTp, by omega, fun H8 cnt t8 hc1 hc2 D8 ht8 X8 => ⟨(show (2 : Nat) ≤ sizeLine by decide), fun Gr nGr => ?_⟩⟩
        have eF8p := X8 _ _ (upNew nTp eR7) oRw.1 oRw.2.2
        have eF8 := upNew nGr (o := .tup [.ref Tp, .int cnt]) eF8p
        have tk8 := (TupK.new nTp).trans (X8.tup (d7.new nTp (o := .tup (ws.map V.int))))
        have sT : SqT K H8 Tp (ws.map V.int) := (X8.tup (d7.new nTp)).sq (SqT.of upd_same)
        have tkz : TupK H8 (upd (upd H8 Gr (.tup [.ref Tp, .int cnt])) Rw (.lst (vs ++ [.ref Gr]))) := (TupK.new nGr).trans (TupK.put eF8)
        refine ⟨Rw, vs, _, rfl, rfl, eF8, by rw [hvl]; exact small (by omega), _, _, t8, vs ++ [.ref Gr], gs ++ [(ws, cnt)], rfl, (D8.new nGr).put oRw.1 oRw.2.1 oRw.2.2, by omega, ExtPut (((x7.trans (Ext.of (sameNew nTp))).trans X8).trans (Ext.of (sameNew nGr))) fRw, upd_same, ?_, by simp [lgs], ?_⟩
        · rw [List.map_append]
          refine DpAll.snoc (((tk7.trans tk8).trans tkz).dpAll _ _ (to_grps _) hvs) (.tup (SqT.of ?_) (.cons (dI_sq (tkz.sq sT)) (.cons (.int _) .nil)))
          rw [upd_ne (ne_of_none eF8p nGr).symm]
          exact upd_same
        · intro g hg
          rw [List.mem_append] at hg
          rcases hg with h | h
          · exact bgs g h
          · simp only [List.mem_singleton] at h
            subst h
            exact ⟨lW7, bW7, ⟨hc1, hc2⟩, nW7⟩
    · rintro σ Hr ⟨y6, y7, t4, vs, gs, rfl, d4, ht4, x4, eR, hvs, lgs, bgs⟩
      have hvl : vs.length = gs.length := by rw [DpAll.len hvs, List.length_map]
      -- sizes = []
      refine ⟨Nat.zero_le _, fun Sz nSz => ?_⟩
      have oSz := d4.off nSz
      have fSz := x4.nil d4 nSz
      have nRS : Rw ≠ Sz := ne_of_none eR nSz
      refine ⟨.int n, rfl, n, rfl, by omega, by omega, for_it (walk_range (lo := 0) (n := (n : Int).toNat))
        (fun j σ H5 => ∃ (z6 z7 z9 z10 : Option V) (t5 : Nat) (ls : List Int), σ = [some (.ref st), some (.int 6), some (.int gm), some (.int far), some (.int n), some (.ref Rw), z6, z7, some (.ref Sz), z9, z10, none] ∧ DS H5 st c r t5 ∧ t5 ≤ t4 + 10 * j ∧ Ext st r H H5 ∧ TupK Hr H5 ∧
          H5 Rw = some (.lst vs) ∧ H5 Sz = some (.lst (ls.map V.int)) ∧ ls.length = j ∧ ∀ x ∈ ls, 1 ≤ x ∧ x ≤ 10 ^ 12)
        ⟨_, _, none, none, t4, [], rfl, d4.new nSz, by omega, x4.trans (Ext.of (sameNew nSz)), TupK.new nSz, upNew nSz eR, upd_same, rfl, fun x h => by simp at h⟩ (fun _ _ _ _ _ => trivial) ?_ ?_⟩
      · rintro j v σ H5 H5' hltj ⟨z6, z7, z9, z10, t5, ls, rfl, d5, ht5, x5, tk5, eR5, eS5, lS5, bS5⟩ ⟨rfl, rfl⟩
        have hj6 : j < 6 := by omega
        -- near
        refine ⟨.ref Rw, rfl, Rw, rfl, ⟨_, SqL.of eR5⟩, fun D nD => lc_it (walk_list (K := K) (a := Rw) (xs := vs))
          (fun m H6 => Same H5' H6 ∧ ∃ ks : List Int, H6 D = some (.lst (ks.map V.int)) ∧ ks.length ≤ m) ⟨sameNew nD, [], upd_same, Nat.le_refl _⟩ (fun m H6 _ h6 => SqL.of (h6.1 _ _ eR5)) ?_ ?_⟩
        · rintro m x H6 H6' hltm ⟨s6, ks, e6, l6⟩ ⟨rfl, hx⟩
          obtain ⟨dd, hdd, hxd⟩ := DpAll.at hvs hx
          rw [List.getElem?_map] at hdd
          obtain ⟨g, hgi, rfl⟩ := Option.map_eq_some_iff.mp hdd
          obtain ⟨gAd, pA, rfl, hG, hP⟩ := grp_ref ((tk5.trans (TupK.of s6)).dp _ _ (to_dGrp g) hxd)
          refine ⟨gAd, _, rfl, hG, rfl, _, _, rfl, _, _, rfl, rfl, rfl, .ref pA, rfl, 1, rfl, first_eq hP (fun H7 b s7 hb => ⟨_, rfl, (show (1 : Nat) ≤ sizeLine by decide), fun p2 n2 => ⟨dI (g.1.take 1), dI [(0 : Int) + (j : Nat)], dI_sq ((TupK.new n2).sq hb), dI_sq (SqT.of upd_same), shaped_dI _, shaped_dI _, _, rfl, ite2 (fun h1 => ?_) (fun h1 => ?_)⟩⟩)⟩
          · have e8 := upNew n2 (o := .tup [.int ((0 : Int) + (j : Nat))]) (s7 _ _ e6)
            refine ⟨_, rfl, _, e8, ?_, samePut ((s6.trans s7).trans (sameNew n2)) nD, ks ++ [g.2], ?_, by simp; omega⟩
            · rw [List.length_map]; exact small (by omega)
            · rw [upd_same, List.map_append]; rfl
          · exact ⟨(s6.trans s7).trans (sameNew n2), ks, upNew n2 (s7 _ _ e6), by omega⟩
        rintro H6 ⟨s6, ks, e6, l6⟩
        have d6 := d5.same s6
        refine ⟨D, ks, rfl, SqL.of e6, .ref st, rfl, st, c, r, t5, _, rfl, d6, by omega, by decide, by decide, fun H7 d7 h70 h71 D7 X7 => ⟨_, _, rfl, rfl, _, _, rfl, rfl, ?_⟩⟩
        have x7 := (x5.trans (Ext.of s6)).trans X7
        have eS7 := X7 _ _ (s6 _ _ eS5) oSz.1 oSz.2.2
        have eR7 := X7 _ _ (s6 _ _ eR5) oRw.1 oRw.2.2
        have tk7 := (tk5.trans (TupK.of s6)).trans (X7.tup d6)
        -- sizes.append(..)
        refine ⟨.ref Sz, rfl, .inl ⟨rfl, _, SqL.of eS7⟩, .ref st, rfl, .ref st, rfl, .int far, rfl, st, c, r, t5 + 1, far, rfl, D7, by omega, fun H8 am t8 ha1 ha2 D8 ht8 X8 => ?_⟩
        refine ⟨_, _, rfl, rfl, ⟨by decide, by decide, by decide⟩, _, rfl, _, _, rfl, _, _, rfl, (show (2 : Nat) ≤ sizeLine by decide), fun L nL => ?_⟩
        have oL := D8.off nL
        refine ⟨st, c, r, L, t8, _, rfl, D8.new nL, by omega, upd_same, oL.1, oL.2.2, (show (0 : Nat) < 2 by decide), (show (2 : Nat) ≤ 1000 by decide), fun H9 jj x hx D9 X9 => ?_⟩
        obtain ⟨xv, rfl, hx1, hx2⟩ : ∃ xv : Int, x = .int xv ∧ 1 ≤ xv ∧ xv ≤ 10 ^ 12 := by
          match jj, hx with
          | 0, hx => cases hx; exact ⟨am, rfl, ha1, ha2⟩
          | 1, hx =>
            cases hx
            have t12 : (10 : Int) ^ (12 : Int).toNat = 1000000000000 := by decide
            refine ⟨_, rfl, ?_, ?_⟩
            · split <;> omega
            · split
              · split <;> rw [t12] at * <;> omega
              · omega
          | n + 2, hx => simp at hx
        have eS9 := X9 _ _ (upNew nL (X8 _ _ eS7 oSz.1 oSz.2.2)) oSz.1 oSz.2.2
        have eR9 := X9 _ _ (upNew nL (X8 _ _ eR7 oRw.1 oRw.2.2)) oRw.1 oRw.2.2
        refine ⟨Sz, _, _, rfl, rfl, eS9, by rw [List.length_map]; exact small (by omega), _, _, _, _, t8 + 1, ls ++ [xv], rfl, D9.put oSz.1 oSz.2.1 oSz.2.2, by omega, ExtPut (((x7.trans X8).trans (Ext.of (sameNew nL))).trans X9) fSz, (((tk7.trans (X8.tup D7)).trans (TupK.new nL)).trans (X9.tup (D8.new nL))).trans (TupK.put eS9), by rw [upd_ne nRS]; exact eR9, ?_, by simp [lS5], ?_⟩
        · rw [upd_same, List.map_append]; rfl
        · intro y hy
          rw [List.mem_append] at hy
          rcases hy with h | h
          · exact bS5 y h
          · simp only [List.mem_singleton] at h; omega
      · rintro σ H5 ⟨z6, z7, z9, z10, t5, ls, rfl, d5, ht5, x5, tk5, eR5, eS5, lS5, bS5⟩
        refine ⟨.ref Sz, rfl, Sz, _, rfl, .inl ⟨SqL.of eS5, fun Ct nCt => ⟨.ref Rw, rfl, Rw, _, rfl, .inl ⟨SqL.of (upNew nCt eR5), fun Gt nGt => ⟨(show (2 : Nat) ≤ sizeLine by decide), fun In nIn => ?_⟩⟩⟩⟩⟩
        have tkz : TupK H5 (upd (upd (upd H5 Ct (.tup (ls.map V.int))) Gt (.tup vs)) In (.tup [.ref Ct, .ref Gt])) := ((TupK.new nCt).trans (TupK.new nGt)).trans (TupK.new nIn)
        have hl5 : ls.length = n := by omega
        refine q _ In t5 ls gs (((d5.new nCt).new nGt).new nIn) (by omega) (((x5.trans (Ext.of (sameNew nCt))).trans (Ext.of (sameNew nGt))).trans (Ext.of (sameNew nIn)))
          (.tup (SqT.of upd_same) (.cons (dI_sq (((TupK.new nGt).trans (TupK.new nIn)).sq (SqT.of upd_same))) (.cons (.tup (SqT.of (upNew nIn upd_same)) ((tk5.trans tkz).dpAll _ _ (to_grps _) hvs)) .nil))) ⟨by omega, by omega, bS5, by omega, by omega, ?_⟩ (fun g hg => (bgs g hg).2.2.2)
        rw [hl5]
        exact fun g hg => ⟨(bgs g hg).1, (bgs g hg).2.1, (bgs g hg).2.2.1.1, (bgs g hg).2.2.1.2⟩
end
end Pv

/-! sorted(t), set(t), len(set(t)) of a tuple of ints -/
namespace PyProof.Rows
open PySem
section
variable {prog : Program} {w : World} {A : Around} {E : Value → Shared → Prop} {s : Shared}
theorem pv_collectTup {l : Addr} {vs : List Value} {Q : List Value → Shared → Prop} (hl : s.heap.IsTuple l vs.toArray) (hsz : vs.length ≤ sizeLine)
    (h : Q vs { s with heap := (s.heap.push (seqObj "list" #[] 0)).update s.heap.objs.size (Obj.mapSeq (· ++ vs.toArray)) }) : wpAny (model prog w) A (collect (.ref l)) Q E s := by
  obtain ⟨o, ho, hc, n, hd⟩ := id hl
  have ho1 : (s.heap.push (seqObj "list" #[] 0)).get? l = some o := Heap.get?_push_of_some _ ho
  have htt : (Value.type "tuple" == Value.type "tuple") = true := by rfl
  unfold collect; refine wpAny_bind (wpAny_runValue (codeAny_builtin entry_proto_collect' ?_))
  show wpAny _ _ (do again (.builtin "list.__iadd__" ⟨[← newList [], .ref l], []⟩)) _ _ _
  refine wpAny_bind (wpAny_newList (wpAny_pure ⟨Code.quiet_builtin _ (by decide +kernel), codeAny_builtin entry_list_iadd' ?body⟩))
  case body =>
    show wpAny _ _ (Builtin.List.listExtendWith (.ref s.heap.objs.size) (.ref l) (.ref s.heap.objs.size)) _ _ { s with heap := s.heap.push (seqObj "list" #[] 0), toks := s.toks }
    unfold Builtin.List.listExtendWith; refine wpAny_bind (wpAny_typeOf (T := "tuple") ⟨o, ho1, hc⟩ ?_)
    rw [if_pos (by rw [htt]; simp)]; refine wpAny_bind (listItems_at ho1 hd (wpAny_bind (listItems_at (xs := #[]) (n := 0) (Heap.get?_push_size _ rfl) rfl ?_)))
    rw [if_neg (by simp)]; refine wpAny_bind (listUpdate_at (xs := #[]) (n := 0) (Heap.get?_push_size _ rfl) rfl (wpAny_pure ?_) (Nat.zero_le _) (by show (#[] ++ vs.toArray).size ≤ sizeLine + 1; simp only [Array.size_append, List.size_toArray, List.length_nil]; omega))
    show wpAny (model prog w) A (do match (← load s.heap.objs.size).data with | .seq xs _ => pure xs.toList | _ => unsupported "internal:collect") Q E { s with heap := (s.heap.push (seqObj "list" #[] 0)).update s.heap.objs.size (Obj.mapSeq (· ++ vs.toArray)), toks := s.toks }
    refine wpAny_bind (wpAny_load (get?_update_seq (Heap.get?_push_size _ rfl) _) ?_)
    show wpAny _ _ (pure ((#[] : Array Value) ++ vs.toArray).toList) Q E { s with heap := _ }
    rw [show ((#[] : Array Value) ++ vs.toArray).toList = vs by simp]; exact wpAny_pure h
theorem pv_sortedTup {l : Addr} {vs : List Value} {ns : List Int} {Q : Value → Shared → Prop} (hl : s.heap.IsTuple l vs.toArray) (hI : IntsAre vs ns) (h64 : vs.length < 64)
    (h : ∀ (out : Array Value) (ns' : List Int), IntsAre out.toList ns' → ns'.Perm ns → ns'.Pairwise (· ≤ ·) → Q (.ref (s.heap.objs.size + 1)) { s with heap := sortedAll s.heap vs out }) :
    wpAny (model prog w) A (call (.builtin "sorted") [.ref l]) Q E s := by
  refine Calls.call_function_entry kind_sorted plain_sorted entry_sorted (args_sorted1 _) ?tree
  case tree =>
    unfold Builtin.«sorted»; refine wpAny_bind (m := checkCount "sorted" 1 1 _) (wpAny_pure (wpAny_bind (pv_collectTup hl (by rw [sizeLine_eq]; omega) (wpAny_bind (wpAny_newList ?new (by rw [sizeLine_eq]; omega))))))
    case new =>
      have e1 : ((s.heap.push (seqObj "list" #[] 0)).update s.heap.objs.size (Obj.mapSeq (· ++ vs.toArray))).objs.size = s.heap.objs.size + 1 := by rw [Heap.size_update, size_push']
      have e2 : (((s.heap.push (seqObj "list" #[] 0)).update s.heap.objs.size (Obj.mapSeq (· ++ vs.toArray))).push (seqObj "list" vs.toArray 0)).get? (s.heap.objs.size + 1) = some (seqObj "list" vs.toArray 0) := by rw [← e1]; exact Heap.get?_push_size _ rfl
      show wpAny _ _ _ _ _ { s with heap := ((s.heap.push (seqObj "list" #[] 0)).update s.heap.objs.size (Obj.mapSeq (· ++ vs.toArray))).push (seqObj "list" vs.toArray 0), toks := s.toks }
      rw [e1]; exact wpAny_bind (wpAny_holding (wpAny_call_entry slot_list_sort ⟨_, e2, rfl⟩ entry_list_sort (list_sort_tree e2 hI h64 fun out ns' a1 a2 a3 => ⟨_, rfl, wpAny_pure ⟨_, rfl, h out ns' a1 a2 a3⟩⟩) (args_list_sort _)))
end
end PyProof.Rows
namespace Pv
open PySem PySem.Spec PyProof.Rows L2
section
variable {X : Cx}
def rSortedT (K : PySem.W.Frag) : RC := fun vs H Q => ∃ (a : Addr) (ns : List Int), vs = [V.ref a] ∧ SqT K H a (ns.map V.int) ∧ ns.length < 64 ∧
  ∀ (ns' : List Int) (p : Addr), ns'.Perm ns → ns'.Pairwise (· ≤ ·) → H p = none → Q (.ref p) (upd H p (.lst (ns'.map V.int)))
theorem cr_sortedT : CallR X (.builtin "sorted") (rSortedT X.K) := by
  intro pins s σ H vs us Q I rel h
  obtain ⟨a, ns, e, hs, h64, q⟩ := h
  subst e
  obtain ⟨its, rv, ht, hz⟩ := I.tuple hs
  rw [Vals.ref1 rel]
  have hi := rv.ints
  refine pv_sortedTup (show s.heap.IsTuple a its.toArray from ht) hi (by rw [hi.length]; exact h64) ?_
  intro out ns' h1 h2 h3
  obtain ⟨ep, he⟩ := PyProof.Rows.sortedAll_at s.heap its out
  have hlen : (ns'.map V.int).length ≤ sizeLine := by rw [List.length_map, h2.length_eq, sizeLine_eq]; omega
  exact ⟨.ref _, _, I.laid (a := s.heap.objs.size + 1) (o := .lst (ns'.map V.int)) (t' := s.toks) (fun _ _ => PyProof.Rows.sortedAll_old) (Nat.le_succ _) ⟨hlen, out.toList, ep, vals_of_ints h1, he⟩, rfl, q ns' _ h2 h3 (I.hok.fresh (Nat.le_succ _))⟩
def rSetT (w : World) (K : PySem.W.Frag) : RC := fun vs H Q => ∃ (a : Addr) (ns : List Int), vs = [V.ref a] ∧ SqT K H a (ns.map V.int) ∧ ns.length < 60 ∧
  ∀ (p : Addr) (c : Nat), H p = none → (∃ ks : List Int, ks.Nodup ∧ (∀ k, k ∈ ks ↔ k ∈ ns) ∧ ks.length = c) → c ≤ ns.length → Q (.ref p) (upd H p (SetO w p (fun j => decide (j ∈ ns)) c))
theorem cr_setT (hc : X.calm = true) : CallR X (.type "set") (rSetT X.w X.K) := by
  intro pins s σ H vs us Q I rel h
  obtain ⟨a, ns, e, hs, h60, q⟩ := h
  subst e
  obtain ⟨its, rv, ht, hz⟩ := I.tuple hs
  rw [Vals.ref1 rel]
  have hi := rv.ints
  have hsb : scanBound > 61 := by decide
  refine call_set_tupI ns (I.ok.hd hc) (show s.heap.IsTuple a its.toArray from ht) (by simpa using hi) (by omega) ?_
  intro h' tk c R hcn kp
  refine ⟨.ref s.heap.objs.size, _, I.laid (a := s.heap.objs.size) (o := SetO X.w s.heap.objs.size (fun j => decide (j ∈ ns)) c) (t' := tk) kp (Nat.le_refl _) (setO_new R), rfl, q _ c (I.hok.fresh (Nat.le_refl _)) ?_ hcn⟩
  obtain ⟨o, es, ep, t, _, _, _, _, nd, hm, _, _, hn, _⟩ := R
  exact ⟨es.toList.map keyOf, nd, fun k => by rw [← hm k]; simp, by rw [List.length_map, Array.length_toList]; exact hn⟩
def rLenS' (w : World) : RC := fun vs H Q => ∃ (a : Addr) (S : Int → Bool) (n : Nat), vs = [V.ref a] ∧ H a = some (SetO w a S n) ∧ Q (.int n) H
theorem cr_lenSet : CallR X (.builtin "len") (rLenS' X.w) := by
  intro pins s σ H vs us Q I rel h
  obtain ⟨a, S, n, e, ha, q⟩ := h
  subst e
  rw [Vals.ref1 rel]
  obtain ⟨o, es, ep, t, ho, hx, hd, _, _, _, hb, hf, hn, _⟩ := setO_get I ha
  subst hn
  have hsb : scanBound < 2 ^ 62 := by decide
  exact call_len_set ho hx hd hf (by omega) ⟨.int _, H, I.tok _, ⟨_, rfl⟩, q⟩
end
/-! what the size of the set tells -/
theorem len_sub : ∀ {ks ns : List Int}, ks.Nodup → (∀ k ∈ ks, k ∈ ns) → ks.length ≤ ns.length
  | [], _, _, _ => Nat.zero_le _
  | k :: ks, ns, nd, h => by
    obtain ⟨n1, n2⟩ := List.nodup_cons.mp nd
    have hk := h k (by simp)
    have h1 := len_sub (ks := ks) (ns := ns.erase k) n2 (fun x hx => by
      have hne : x ≠ k := fun z => n1 (by rw [← z]; exact hx)
      exact (List.mem_erase_of_ne hne).mpr (h x (by simp [hx])))
    rw [List.length_erase_of_mem hk] at h1
    have := List.length_pos_of_mem hk
    rw [List.length_cons]; omega
theorem len_nodup : ∀ {ns ks : List Int}, ks.Nodup → (∀ k, k ∈ ks ↔ k ∈ ns) → (ks.length = ns.length ↔ ns.Nodup) := by
  intro ns ks nd hm
  constructor
  · intro hl
    induction ns generalizing ks with
    | nil => exact List.nodup_nil
    | cons n ns ih =>
      have hn : n ∈ ks := (hm n).mpr (by simp)
      have hnot : n ∉ ns := by
        intro hin
        have := len_sub nd (ns := ns) (fun k hk => by
          rcases List.mem_cons.mp ((hm k).mp hk) with rfl | h
          · exact hin
          · exact h)
        rw [List.length_cons] at hl; omega
      refine List.nodup_cons.mpr ⟨hnot, ih (ks := ks.erase n) (nd.erase n) (fun k => ?_) ?_⟩
      · rw [nd.mem_erase_iff, hm k, List.mem_cons]
        constructor
        · rintro ⟨h1, h2 | h2⟩
          · exact absurd h2 h1
          · exact h2
        · intro h
          exact ⟨fun z => hnot (z ▸ h), .inr h⟩
      · rw [List.length_erase_of_mem hn, hl, List.length_cons]; rfl
  · intro hn
    exact Nat.le_antisymm (len_sub nd fun k hk => (hm k).mp hk) (len_sub hn fun k hk => (hm k).mpr hk)
theorem lt_unique : ∀ {as bs : List Int}, as.Pairwise (· < ·) → bs.Pairwise (· < ·) → (∀ k, k ∈ as ↔ k ∈ bs) → as = bs
  | [], [], _, _, _ => rfl
  | [], b :: bs, _, _, h => by have := (h b).mpr (by simp); cases this
  | a :: as, [], _, _, h => by have := (h a).mp (by simp); cases this
  | a :: as, b :: bs, ha, hb, h => by
    obtain ⟨a1, a2⟩ := List.pairwise_cons.mp ha
    obtain ⟨b1, b2⟩ := List.pairwise_cons.mp hb
    have e : a = b := by
      rcases List.mem_cons.mp ((h a).mp (by simp)) with h1 | h1
      · exact h1
      · rcases List.mem_cons.mp ((h b).mpr (by simp)) with h2 | h2
        · exact h2.symm
        · have := b1 a h1; have := a1 b h2; omega
    subst e
    rw [lt_unique a2 b2 (fun k => ?_)]
    constructor
    · intro hk
      rcases List.mem_cons.mp ((h k).mp (List.mem_cons_of_mem _ hk)) with h1 | h1
      · have := a1 k hk; omega
      · exact h1
    · intro hk
      rcases List.mem_cons.mp ((h k).mpr (List.mem_cons_of_mem _ hk)) with h1 | h1
      · have := b1 k hk; omega
      · exact h1
theorem sort_nodup {ns ns' ms : List Int} (hp : ns'.Perm ns) (hs : ns'.Pairwise (· ≤ ·)) (hm : ms.Pairwise (· < ·)) (h : ∀ k, k ∈ ms ↔ k ∈ ns) : ns' = ms ↔ ns.Nodup := by
  constructor
  · intro e
    subst e
    exact hp.nodup_iff.mp (hm.imp fun {a b} h => by omega)
  · intro hn
    have hn' : ns'.Nodup := hp.nodup_iff.mpr hn
    refine lt_unique ?_ hm (fun k => by rw [hp.mem_iff, h k])
    exact (hs.and hn').imp fun {a b} h => by have := h.1; have := h.2; omega
end Pv

namespace Pv
open PySem PySem.Spec PyProof.Rows L2
abbrev sPList : Stmt := topS 16


theorem scPList : FnScope ["value", "post_count", "post"] ["value", "post_count"] (defScope sPList) := ⟨rfl, rfl, rfl, by decide +kernel, rfl, by decide +kernel, by decide +kernel⟩
/-! a tuple of different post numbers, by its data -/
def listD (n : Int) (d : PyData) : Bool := match intsOf d with
  | some row => row.all (fun x => decide (0 ≤ x ∧ x ≤ n - 1)) && decide row.Nodup
  | none => false
theorem listD_ints (n : Int) (row : List Int) : listD n (.tuple (row.map .int)) = (row.all (fun x => decide (0 ≤ x ∧ x ≤ n - 1)) && decide row.Nodup) := by
  simp [listD, intsOf, intsAll_ints]
theorem listD_out {n : Int} {ds : List PyData} (h : ds.all (withinD 0 (n - 1)) = false) : listD n (.tuple ds) = false := by
  cases e : intsAll ds with
  | none => simp [listD, intsOf, e]
  | some row =>
    have e' := intsAll_eq e
    rw [e', List.all_map] at h
    have : row.all (fun x => decide (0 ≤ x ∧ x ≤ n - 1)) = false := h
    simp only [listD, intsOf, e, this, Bool.false_and]
theorem listD_long {n : Int} {d : PyData} (hn : 0 ≤ n) (h : tupOfD 0 n d = false) : listD n d = false := by
  cases d with
  | tuple ds =>
    cases e : listD n (.tuple ds) with
    | false => rfl
    | true =>
      cases e1 : intsAll ds with
      | none => simp [listD, intsOf, e1] at e
      | some row =>
        have e2 := intsAll_eq e1
        subst e2
        rw [listD_ints, Bool.and_eq_true, List.all_eq_true] at e
        have hl := len_sub (ks := row) (ns := upTo n.toNat) (of_decide_eq_true e.2) (fun k hk => by
          have := of_decide_eq_true (e.1 k hk)
          exact List.mem_map.mpr ⟨k.toNat, by rw [List.mem_range]; omega, by omega⟩)
        rw [upTo_len] at hl
        have h1 := of_decide_eq_false h
        rw [List.length_map] at h1
        omega
  | _ => rfl
section
variable {P : Program} {w : World} {K : PySem.W.Frag} {mg : Str → Option Value} {base : Heap}
def rNeNil (K : PySem.W.Frag) : R2 := fun x y H Q => ∃ (a b : Addr) (xs : List V), x = .ref a ∧ y = .ref b ∧ SqL K H a xs ∧ SqL K H b [] ∧ Q (.bl (!xs.isEmpty)) H
theorem op_neNil {X : Cx} (hu : X.A.units < cLine) : OpR X (compareOp .NotEq) (rNeNil X.K) := by
  intro pins s σ H x y v u Q I rx ry h
  obtain ⟨a, b, xs, rfl, rfl, ha, hb, q⟩ := h
  cases rx
  cases ry
  obtain ⟨its, r1, p1, z1⟩ := I.list ha
  obtain ⟨its2, r2, p2, z2⟩ := I.list hb
  cases r2
  cases xs with
  | nil =>
    cases r1
    exact SeqAt.RcNeAt.lists (e := fun _ => true) p1.isList p2.isList rfl hu (fun j h1 _ => absurd h1 (Nat.not_lt_zero _)) X.prog X.w _ _ ⟨.bl false, H, I, rfl, q⟩
  | cons x xs =>
    have hl := r1.length
    exact SeqAt.RcNeAt.lists_lengths p1.isList p2.isList (by rw [List.size_toArray, ← hl]; rfl) hu X.prog X.w _ _ ⟨.bl true, H, I, rfl, q⟩
def spInteg (K : PySem.W.Frag) : Sp := fun vs H Q _ => ∃ (st r : Addr) (v : V) (d : PyData) (a b : Int), vs = [v, .int a, .int b] ∧ Dq K st r H v d ∧ Q (.bl (withinD a b d)) H
def spPList (K : PySem.W.Frag) : Sp := fun vs H Q _ => ∃ (st r : Addr) (v : V) (d : PyData) (n : Int), vs = [v, .int n] ∧ Dq K st r H v d ∧ 0 ≤ n ∧ n ≤ 50 ∧ ∀ H', Same H H' → Q (.bl (listD n d)) H'
set_option maxHeartbeats 1000000 in
theorem ok_plist {f fT fW : Addr} {fd fdT fdW : FuncData} {k : Nat} (F : Fun K "is_post_list" "is_post_list" sPList f fd)
    (FT : Fun K "is_tuple_of" "is_tuple_of" sTupOf fT fdT) (bT : Binds K fdT ["value", "least", "most"] []) (gT : mg "is_tuple_of" = some (.ref fT)) (GT : FnOk P w K mg base CX0 1 fT fdT ["value", "least", "most"] (spTupOf K))
    (FW : Fun K "is_within" "is_within" sWithin fW fdW) (bW : Binds K fdW ["value", "least", "most"] []) (gW : mg "is_within" = some (.ref fW)) (GW : FnOk P w K mg base CX0 2 fW fdW ["value", "least", "most"] (spWithin K))
    (ml : mg "len" = none) (ma : mg "all" = none) (mse : mg "set" = none) : FnOk P w K mg base CX0 (2 + k + 1) f fd ["value", "post_count"] (spPList K) := by
  refine F.ok scPList (fun vs H Q E h => ?_) (fun cdv A outer s H vs Q E hr h => ?_)
  · obtain ⟨st, r, v, d, n, rfl, _⟩ := h; rfl
  · obtain ⟨st, r, v, d, n, rfl, hd, hn0, hn, q⟩ := h
    refine ⟨_, pss_cons (ps_if (pt_not (pt_val (pe_call GT (hr.mono (by omega)) (by rfl) gT FT.kp bT .nil pass0 (pa_cons (pv 0) (pa_cons pe_int (pa_cons (pv 1) pa_nil)))))) (pss_one (ps_ret pe_bl)) pss_nil)
      (pss_cons (ps_if (pt_not (pt_val (pe_callB (cr_all rfl) (by rfl) ma (by decide +kernel) (pa_cons
          (pe_lc (own := [("post", 2)]) (g := gName 2) (tt := tYes) (te := tCall (spWithin K) [] E0 (tCons (tVar 2) (tCons (tC (.int 0)) (tCons (tOp (rI0 fun i j => .int (i - j)) (tVar 1) (tC (.int 1))) tNil)))) rfl scPList.nd (pi_tup (pv 0)) (blkOk_by (N := ["value", "post_count", "post"]) (sc := defScope sPList) (by decide +kernel))
            (fun _ _ _ _ _ => pg_name (i := 2) scPList.nd rfl (.inl rfl)) (fun _ _ _ _ _ => pts_nil)
            (fun _ _ _ _ _ => pe_call GW (hr.mono (by omega)) (by rfl) gW FW.kp bW .nil pass0 (pa_cons (pv 2) (pa_cons pe_int (pa_cons (pe_op op_sub (pv 1) pe_int) pa_nil)))))
          pa_nil)))) (pss_one (ps_ret pe_bl)) pss_nil)
      (pss_one (ps_ret (pe_cmpR op_eq (pe_callB cr_lenSet (by rfl) ml PySem.boot_len (pa_cons (pe_callTy (cr_setT rfl) (by rfl) mse (by decide +kernel) (pa_cons (pv 0) pa_nil)) pa_nil)) (pe_callB call_len_seq (by rfl) ml PySem.boot_len (pa_cons (pv 0) pa_nil)) (nomark _))))), ?_⟩
    refine ⟨v, rfl, .int n, rfl, st, r, v, d, _, _, rfl, hd, ?_⟩
    cases hb : tupOfD 0 n d with
    | false =>
      refine ⟨_, rfl, iteT ?_⟩
      have := q H (Same.refl H)
      rw [listD_long hn0 hb] at this
      exact this
    | true =>
    refine ⟨_, rfl, iteF ?_⟩
    cases d with
    | none | bool _ | int _ | str _ | list _ | dict _ => simp [tupOfD] at hb
    | tuple ds =>
    cases hd with
    | @tup va xs _ hV ha =>
    have hl := DqAll.len ha
    have hdl : (ds.length : Int) ≤ n := (of_decide_eq_true hb).2
    refine ⟨.ref va, rfl, va, rfl, ⟨_, hV⟩, fun D nD => lc_tup (xs := xs)
      (fun i H2 => Same H H2 ∧ H2 D = some (.lst (((ds.take i).map (withinD 0 (n - 1))).map V.bl))) ⟨sameNew nD, upd_same⟩ (fun i H2 _ h2 => (TupK.of h2.1).sq hV) ?_ ?_⟩
    · rintro i x H2 hx ⟨s2, e2⟩
      obtain ⟨dx, hdx, hxd⟩ := DqAll.at ha hx
      have hil : i < ds.length := (List.getElem?_eq_some_iff.mp hdx).1
      refine ⟨rfl, x, rfl, .int n, rfl, _, _, rfl, rfl, st, r, x, dx, 0, n - 1, rfl, hxd.lasts (.of s2), _, e2, ?_, samePut s2 nD, ?_⟩
      · rw [List.length_map, List.length_map, List.length_take]; exact small (by omega)
      · rw [upd_same, List.take_add_one, hdx]; simp
    · rintro H2 ⟨s2, e2⟩
      rw [hl, List.take_length] at e2
      refine ⟨D, _, rfl, SqL.of e2, _, rfl, ?_⟩
      cases hall : ((ds.map (withinD 0 (n - 1))).all id) with
      | false =>
        rw [List.all_map] at hall
        have := q H2 s2
        rw [listD_out (show ds.all (withinD 0 (n - 1)) = false from hall)] at this
        exact this
      | true =>
        rw [List.all_map] at hall
        obtain ⟨row, er, hrow⟩ := within_ints (show ds.all (withinD 0 (n - 1)) = true from hall)
        subst er
        have hxs := DpAll.ints (DqAll.to_dp (to_ints row) ha)
        subst hxs
        rw [List.length_map] at hdl
        refine ⟨.ref va, rfl, va, row, rfl, (TupK.of s2).sq hV, by omega, fun p c np hks hcn => ⟨p, _, c, rfl, upd_same, .ref va, rfl, va, _, rfl, .inr ((TupK.new np).sq ((TupK.of s2).sq hV)), rfl, ?_⟩⟩
        obtain ⟨ks, nd, hm, hlk⟩ := hks
        have e : listD n (.tuple (row.map PyData.int)) = decide (V.int (c : Int) = V.int (((row.map V.int).length : Nat) : Int)) := by
          rw [listD_ints, hrow, Bool.true_and, List.length_map]
          have := len_nodup nd hm
          rw [hlk] at this
          by_cases hnd : row.Nodup
          · rw [decide_eq_true hnd, this.mpr hnd]; simp
          · have h3 : ¬ c = row.length := fun z => hnd (this.mp z)
            rw [decide_eq_false hnd]
            symm
            apply decide_eq_false
            intro z
            injection z with z
            omega
        have := q _ (s2.trans (sameNew (o := SetO w p (fun j => decide (j ∈ row)) c) np))
        rw [e] at this
        exact this
end
end Pv

namespace Pv
open PySem PySem.Spec PyProof.Rows L2


abbrev sPErr : Stmt := topS 14
abbrev sGErr : Stmt := topS 15
theorem scPErr : FnScope ["posts", "post", "capacity"] ["posts"] (defScope sPErr) := ⟨rfl, rfl, rfl, by decide +kernel, rfl, by decide +kernel, by decide +kernel⟩
theorem scGErr : FnScope ["groups", "post_count", "number", "group"] ["groups", "post_count"] (defScope sGErr) := ⟨rfl, rfl, rfl, by decide +kernel, rfl, by decide +kernel, by decide +kernel⟩
/-! the first error, by the data -/
abbrev bigI : Int := 1000000000000
def err (path : List Int) (s : Str) : PyData := .tuple [dI path, .str s]
def firstErr (ge : Nat → PyData → Option PyData) : Nat → List PyData → Option PyData
  | _, [] => none
  | i, d :: ds => match ge i d with
    | some e => some e
    | none => firstErr ge (i + 1) ds
theorem firstErr_none {ge : Nat → PyData → Option PyData} : ∀ {ds : List PyData} {i : Nat}, (∀ j d, ds[j]? = some d → ge (i + j) d = none) → firstErr ge i ds = none
  | [], _, _ => rfl
  | d :: ds, i, h => by
    have h0 := h 0 d rfl
    unfold firstErr
    rw [show i + 0 = i from rfl] at h0
    rw [h0]
    exact firstErr_none (ds := ds) (i := i + 1) (fun j d' hj => by have := h (j + 1) d' (by simpa using hj); rw [show i + 1 + j = i + (j + 1) by omega]; exact this)
theorem firstErr_at {ge : Nat → PyData → Option PyData} : ∀ {ds : List PyData} {i j : Nat} {d e : PyData}, (∀ m, m < j → ∀ d', ds[m]? = some d' → ge (i + m) d' = none) → ds[j]? = some d → ge (i + j) d = some e → firstErr ge i ds = some e
  | [], _, _, _, _, _, h, _ => by simp at h
  | x :: ds, i, 0, d, e, _, h, he => by
    simp at h
    subst h
    unfold firstErr
    rw [show i + 0 = i from rfl] at he
    rw [he]
  | x :: ds, i, j + 1, d, e, hp, h, he => by
    have h0 := hp 0 (by omega) x rfl
    rw [show i + 0 = i from rfl] at h0
    unfold firstErr
    rw [h0]
    exact firstErr_at (ds := ds) (i := i + 1) (j := j) (d := d) (fun m hm d' hd' => by have := hp (m + 1) (by omega) d' (by simpa using hd'); rw [show i + 1 + m = i + (m + 1) by omega]; exact this) (by simpa using h) (by rw [show i + 1 + j = i + (j + 1) by omega]; exact he)
def capE (i : Nat) (d : PyData) : Option PyData := if withinD 1 bigI d = true then none else some (err [0, (i : Int)] "capacity")
def grpE (n : Int) (i : Nat) (d : PyData) : Option PyData := match d with
  | .tuple [a, b] => if listD n a = true then (if withinD 1 bigI b = true then none else some (err [1, (i : Int), 1] "count")) else some (err [1, (i : Int), 0] "list")
  | _ => some (err [1, (i : Int)] "group")
def tupItems : PyData → List PyData
  | .tuple ds => ds
  | _ => []
def postsE (d : PyData) : Option PyData := if tupOfD 1 6 d = true then firstErr capE 0 (tupItems d) else some (err [0] "posts")
def groupsE (n : Int) (d : PyData) : Option PyData := if tupOfD 1 10 d = true then firstErr (grpE n) 0 (tupItems d) else some (err [1] "groups")
def instE (d : PyData) : Option PyData := match d with
  | .tuple [a, b] => match postsE a with
    | some e => some e
    | none => groupsE ((tupItems a).length : Nat) b
  | _ => some (err [] "instance")
def optD (o : Option PyData) : PyData := o.getD .none
theorem grpE_not {n : Int} {i : Nat} {d : PyData} (h : tupOfD 2 2 d = false) : grpE n i d = some (err [1, (i : Int)] "group") := by
  unfold grpE
  split
  · simp [tupOfD] at h
  · rfl
theorem two_of {ds : List PyData} (h : tupOfD 2 2 (.tuple ds) = true) : ∃ a b, ds = [a, b] := by
  have h1 := of_decide_eq_true h
  match ds, h1 with
  | [a, b], _ => exact ⟨a, b, rfl⟩
  | [], h => simp at h
  | [_], h => simp at h
  | _ :: _ :: _ :: _, h => simp at h; omega
section
variable {P : Program} {w : World} {K : PySem.W.Frag} {mg : Str → Option Value} {base : Heap}
theorem err_fin {H : Hp} {p1 p2 : Addr} (path : List Int) (s : Str) (n1 : H p1 = none) (n2 : upd H p1 (.tup (path.map V.int)) p2 = none) :
    Same H (upd (upd H p1 (.tup (path.map V.int))) p2 (.tup [.ref p1, .str s])) ∧ Dp K (upd (upd H p1 (.tup (path.map V.int))) p2 (.tup [.ref p1, .str s])) (.ref p2) (err path s) :=
  ⟨(sameNew n1).trans (sameNew n2), .tup (SqT.of upd_same) (.cons (dI_sq (SqT.of (upNew n2 upd_same))) (.cons (.str s) .nil))⟩
def spErr (K : PySem.W.Frag) (D : PyData → Option PyData) : Sp := fun vs H Q _ => ∃ (st r : Addr) (v : V) (d : PyData), vs = [v] ∧ Dq K st r H v d ∧ ∀ (H' : Hp) (x : V), Same H H' → Dp K H' x (optD (D d)) → Q x H'
set_option maxHeartbeats 1000000 in
theorem ok_perr {f fT fW : Addr} {fd fdT fdW : FuncData} {k : Nat} {uP uB : Value} (F : Fun K "posts_error" "posts_error" sPErr f fd)
    (FT : Fun K "is_tuple_of" "is_tuple_of" sTupOf fT fdT) (bT : Binds K fdT ["value", "least", "most"] []) (gT : mg "is_tuple_of" = some (.ref fT)) (GT : FnOk P w K mg base CX0 1 fT fdT ["value", "least", "most"] (spTupOf K))
    (FW : Fun K "is_within" "is_within" sWithin fW fdW) (bW : Binds K fdW ["value", "least", "most"] []) (gW : mg "is_within" = some (.ref fW)) (GW : FnOk P w K mg base CX0 2 fW fdW ["value", "least", "most"] (spWithin K))
    (me : mg "enumerate" = none) (mP : mg "POSTS" = some uP) (rP : RelV (.int 6) uP) (mB : mg "BIG" = some uB) (rB : RelV (.int bigI) uB) : FnOk P w K mg base CX0 (2 + k + 1) f fd ["posts"] (spErr K postsE) := by
  refine F.ok scPErr (fun vs H Q E h => ?_) (fun cdv A outer s H vs Q E hr h => ?_)
  · obtain ⟨st, r, v, d, rfl, _⟩ := h; rfl
  · obtain ⟨st, r, v, d, rfl, hd, q⟩ := h
    refine ⟨_, pss_cons (ps_if (pt_not (pt_val (pe_call GT (hr.mono (by omega)) (by rfl) gT FT.kp bT .nil pass0 (pa_cons (pv 0) (pa_cons pe_int (pa_cons (pe_glob (by rfl) mP rP) pa_nil))))))
        (pss_one (ps_ret (pe_tup (pa_cons (pe_tup (pa_cons pe_int pa_nil)) (pa_cons pe_str pa_nil))))) pss_nil)
      (pss_cons (ps_for PassesOwn.never rfl (pi_enumT (by rfl) me (pa_cons (pv 0) pa_nil)) (pg_tup rfl (pgs_cons (pg_name (i := 1) scPErr.nd rfl (.inl rfl)) (pgs_cons (pg_name (i := 2) scPErr.nd rfl (.inl rfl)) pgs_nil)))
        (pss_one (ps_if (pt_not (pt_val (pe_call GW (hr.mono (by omega)) (by rfl) gW FW.kp bW .nil pass0 (pa_cons (pv 2) (pa_cons pe_int (pa_cons (pe_glob (by rfl) mB rB) pa_nil))))))
          (pss_one (ps_ret (pe_tup (pa_cons (pe_tup (pa_cons pe_int (pa_cons (pv 1) pa_nil))) (pa_cons pe_str pa_nil))))) pss_nil)))
      (pss_one (ps_ret pe_non))), ?_⟩
    refine ⟨v, rfl, st, r, v, d, _, _, rfl, hd, ?_⟩
    cases hb : tupOfD 1 6 d with
    | false =>
      refine ⟨_, rfl, iteT ⟨by decide, fun p1 n1 => ⟨(show (2 : Nat) ≤ sizeLine by decide), fun p2 n2 => ?_⟩⟩⟩
      obtain ⟨s1, h1⟩ := err_fin (K := K) [0] "posts" n1 n2
      refine q _ _ s1 ?_
      rw [show postsE d = some (err [0] "posts") by unfold postsE; rw [hb]; rfl]
      exact h1
    | true =>
    refine ⟨_, rfl, iteF ?_⟩
    cases d with
    | none | bool _ | int _ | str _ | list _ | dict _ => simp [tupOfD] at hb
    | tuple ds =>
    cases hd with
    | @tup a xs _ hV ha =>
    have hl := DqAll.len ha
    have hE : postsE (.tuple ds) = firstErr capE 0 ds := by unfold postsE; rw [hb]; rfl
    refine ⟨.ref a, rfl, a, xs, rfl, hV, for_it (walk_enumT (K := K) (a := a) (xs := xs))
      (fun j σ H2 => ∃ y1 y2, σ = [some (.ref a), y1, y2] ∧ Same H H2 ∧ ∀ m, m < j → ∀ d', ds[m]? = some d' → capE (0 + m) d' = none)
      ⟨none, none, rfl, Same.refl _, fun m hm => absurd hm (Nat.not_lt_zero _)⟩ ?_ ?_ ?_⟩
    · rintro j σ H2 _ ⟨y1, y2, rfl, s2, _⟩
      exact (TupK.of s2).sq hV
    · rintro j v σ H2 H3 hlt ⟨y1, y2, rfl, s2, hpre⟩ ⟨T, x, y, rfl, nT, rfl, hx, hy⟩
      have hx' : some (V.int (j : Nat)) = some x := hx
      cases hx'
      have hy' : xs[j]? = some y := hy
      obtain ⟨dy, hdy, hyd⟩ := DqAll.at ha hy'
      have s3 : Same H (upd H2 T (.tup [.int (j : Nat), y])) := s2.trans (sameNew nT)
      refine ⟨T, _, rfl, SqT.of upd_same, rfl, _, _, rfl, _, _, rfl, rfl, y, rfl, st, r, y, dy, _, _, rfl, hyd.lasts (.of s3), ?_⟩
      cases hw : withinD 1 bigI dy with
      | false =>
        refine ⟨_, rfl, iteT ⟨.int (j : Nat), rfl, (show (2 : Nat) ≤ sizeLine by decide), fun p1 n1 => ⟨(show (2 : Nat) ≤ sizeLine by decide), fun p2 n2 => ?_⟩⟩⟩
        obtain ⟨s1, h1⟩ := err_fin (K := K) [0, (j : Int)] "capacity" n1 n2
        refine q _ _ (s3.trans s1) ?_
        rw [hE, firstErr_at hpre hdy (show capE (0 + j) dy = some (err [0, (j : Int)] "capacity") by unfold capE; rw [hw, Nat.zero_add]; rfl)]
        exact h1
      | true =>
        refine ⟨_, rfl, iteF ⟨_, _, rfl, s3, fun m hm d' hd' => ?_⟩⟩
        by_cases hmj : m < j
        · exact hpre m hmj d' hd'
        · obtain rfl : m = j := by omega
          rw [hdy] at hd'
          cases hd'
          unfold capE
          rw [hw]; rfl
    · rintro σ H2 ⟨y1, y2, rfl, s2, hpre⟩
      refine q _ _ s2 ?_
      rw [hE, firstErr_none (fun j d hj => hpre j (by have := (List.getElem?_eq_some_iff.mp hj).1; omega) d hj)]
      exact .non
end
end Pv

namespace Pv
open PySem PySem.Spec PyProof.Rows L2
section
variable {P : Program} {w : World} {K : PySem.W.Frag} {mg : Str → Option Value} {base : Heap}
def spGErr (K : PySem.W.Frag) : Sp := fun vs H Q _ => ∃ (st r : Addr) (v : V) (d : PyData) (n : Nat), vs = [v, .int n] ∧ Dq K st r H v d ∧ n ≤ 50 ∧ ∀ (H' : Hp) (x : V), Same H H' → Dp K H' x (optD (groupsE n d)) → Q x H'
set_option maxHeartbeats 2000000 in
theorem ok_gerr {f fT fW fL : Addr} {fd fdT fdW fdL : FuncData} {k : Nat} {uG uB : Value} (F : Fun K "groups_error" "groups_error" sGErr f fd)
    (FT : Fun K "is_tuple_of" "is_tuple_of" sTupOf fT fdT) (bT : Binds K fdT ["value", "least", "most"] []) (gT : mg "is_tuple_of" = some (.ref fT)) (GT : FnOk P w K mg base CX0 1 fT fdT ["value", "least", "most"] (spTupOf K))
    (FW : Fun K "is_within" "is_within" sWithin fW fdW) (bW : Binds K fdW ["value", "least", "most"] []) (gW : mg "is_within" = some (.ref fW)) (GW : FnOk P w K mg base CX0 2 fW fdW ["value", "least", "most"] (spWithin K))
    (FL : Fun K "is_post_list" "is_post_list" sPList fL fdL) (bL : Binds K fdL ["value", "post_count"] []) (gL : mg "is_post_list" = some (.ref fL)) (GL : FnOk P w K mg base CX0 3 fL fdL ["value", "post_count"] (spPList K))
    (me : mg "enumerate" = none) (mG : mg "GROUPS" = some uG) (rG : RelV (.int 10) uG) (mB : mg "BIG" = some uB) (rB : RelV (.int bigI) uB) : FnOk P w K mg base CX0 (3 + k + 1) f fd ["groups", "post_count"] (spGErr K) := by
  refine F.ok scGErr (fun vs H Q E h => ?_) (fun cdv A outer s H vs Q E hr h => ?_)
  · obtain ⟨st, r, v, d, n, rfl, _⟩ := h; rfl
  · obtain ⟨st, r, v, d, n, rfl, hd, hn, q⟩ := h
    refine ⟨_, pss_cons (ps_if (pt_not (pt_val (pe_call GT (hr.mono (by omega)) (by rfl) gT FT.kp bT .nil pass0 (pa_cons (pv 0) (pa_cons pe_int (pa_cons (pe_glob (by rfl) mG rG) pa_nil))))))
        (pss_one (ps_ret (pe_tup (pa_cons (pe_tup (pa_cons pe_int pa_nil)) (pa_cons pe_str pa_nil))))) pss_nil)
      (pss_cons (ps_for PassesOwn.never rfl (pi_enumT (by rfl) me (pa_cons (pv 0) pa_nil)) (pg_tup rfl (pgs_cons (pg_name (i := 2) scGErr.nd rfl (.inl rfl)) (pgs_cons (pg_name (i := 3) scGErr.nd rfl (.inl rfl)) pgs_nil)))
        (pss_cons (ps_if (pt_not (pt_val (pe_call GT (hr.mono (by omega)) (by rfl) gT FT.kp bT .nil pass0 (pa_cons (pv 3) (pa_cons pe_int (pa_cons pe_int pa_nil))))))
          (pss_one (ps_ret (pe_tup (pa_cons (pe_tup (pa_cons pe_int (pa_cons (pv 2) pa_nil))) (pa_cons pe_str pa_nil))))) pss_nil)
        (pss_cons (ps_if (pt_not (pt_val (pe_call GL (hr.mono (by omega)) (by rfl) gL FL.kp bL .nil pass0 (pa_cons (pe_ix ix_tup (pv 3) pe_int (fun _ _ => rfl)) (pa_cons (pv 1) pa_nil)))))
          (pss_one (ps_ret (pe_tup (pa_cons (pe_tup (pa_cons pe_int (pa_cons (pv 2) (pa_cons pe_int pa_nil)))) (pa_cons pe_str pa_nil))))) pss_nil)
        (pss_one (ps_if (pt_not (pt_val (pe_call GW (hr.mono (by omega)) (by rfl) gW FW.kp bW .nil pass0 (pa_cons (pe_ix ix_tup (pv 3) pe_int (fun _ _ => rfl)) (pa_cons pe_int (pa_cons (pe_glob (by rfl) mB rB) pa_nil))))))
          (pss_one (ps_ret (pe_tup (pa_cons (pe_tup (pa_cons pe_int (pa_cons (pv 2) (pa_cons pe_int pa_nil)))) (pa_cons pe_str pa_nil))))) pss_nil)))))
      (pss_one (ps_ret pe_non))), ?_⟩
    refine ⟨v, rfl, st, r, v, d, _, _, rfl, hd, ?_⟩
    cases hb : tupOfD 1 10 d with
    | false =>
      refine ⟨_, rfl, iteT ⟨by decide, fun p1 n1 => ⟨(show (2 : Nat) ≤ sizeLine by decide), fun p2 n2 => ?_⟩⟩⟩
      obtain ⟨s1, h1⟩ := err_fin (K := K) [1] "groups" n1 n2
      refine q _ _ s1 ?_
      rw [show groupsE n d = some (err [1] "groups") by unfold groupsE; rw [hb]; rfl]
      exact h1
    | true =>
    refine ⟨_, rfl, iteF ?_⟩
    cases d with
    | none | bool _ | int _ | str _ | list _ | dict _ => simp [tupOfD] at hb
    | tuple ds =>
    cases hd with
    | @tup a xs _ hV ha =>
    have hl := DqAll.len ha
    have hE : groupsE n (.tuple ds) = firstErr (grpE n) 0 ds := by unfold groupsE; rw [hb]; rfl
    refine ⟨.ref a, rfl, a, xs, rfl, hV, for_it (walk_enumT (K := K) (a := a) (xs := xs))
      (fun j σ H2 => ∃ y1 y2, σ = [some (.ref a), some (.int n), y1, y2] ∧ Same H H2 ∧ ∀ m, m < j → ∀ d', ds[m]? = some d' → grpE n (0 + m) d' = none)
      ⟨none, none, rfl, Same.refl _, fun m hm => absurd hm (Nat.not_lt_zero _)⟩ ?_ ?_ ?_⟩
    · rintro j σ H2 _ ⟨y1, y2, rfl, s2, _⟩
      exact (TupK.of s2).sq hV
    · rintro j v σ H2 H3 hlt ⟨y1, y2, rfl, s2, hpre⟩ ⟨T, x, y, rfl, nT, rfl, hx, hy⟩
      have hx' : some (V.int (j : Nat)) = some x := hx
      cases hx'
      have hy' : xs[j]? = some y := hy
      obtain ⟨dy, hdy, hyd⟩ := DqAll.at ha hy'
      have s3 : Same H (upd H2 T (.tup [.int (j : Nat), y])) := s2.trans (sameNew nT)
      have hy3 := hyd.lasts (Lasts.of (st := st) (r := r) s3)
      have fin : ∀ {e : PyData}, grpE n j dy = some e → groupsE n (.tuple ds) = some e := fun {e} he => by
        rw [hE]; exact firstErr_at hpre hdy (by rw [Nat.zero_add]; exact he)
      refine ⟨T, _, rfl, SqT.of upd_same, rfl, _, _, rfl, _, _, rfl, rfl, y, rfl, st, r, y, dy, _, _, rfl, hy3, ?_⟩
      cases hw : tupOfD 2 2 dy with
      | false =>
        refine ⟨_, rfl, iteT ⟨.int (j : Nat), rfl, (show (2 : Nat) ≤ sizeLine by decide), fun p1 n1 => ⟨(show (2 : Nat) ≤ sizeLine by decide), fun p2 n2 => ?_⟩⟩⟩
        obtain ⟨s1, h1⟩ := err_fin (K := K) [1, (j : Int)] "group" n1 n2
        refine q _ _ (s3.trans s1) ?_
        rw [fin (grpE_not hw)]
        exact h1
      | true =>
      refine ⟨_, rfl, iteF ?_⟩
      cases dy with
      | none | bool _ | int _ | str _ | list _ | dict _ => simp [tupOfD] at hw
      | tuple es =>
      obtain ⟨da, db, rfl⟩ := two_of hw
      cases hy3 with
      | @tup ga zs _ hg hz =>
      cases hz with
      | @cons va _ _ _ hva hz =>
      cases hz with
      | @cons vb _ _ _ hvb hz =>
      cases hz
      have hge : grpE n j (.tuple [da, db]) = if listD n da = true then (if withinD 1 bigI db = true then none else some (err [1, (j : Int), 1] "count")) else some (err [1, (j : Int), 0] "list") := rfl
      refine ⟨.ref ga, rfl, ga, _, 0, va, rfl, rfl, hg, atI_nat (j := 0) rfl, .int n, rfl, st, r, va, da, _, rfl, hva, by omega, by omega, fun H4 s4 => ?_⟩
      have s34 := s3.trans s4
      cases hL : listD n da with
      | false =>
        refine ⟨_, rfl, iteT ⟨.int (j : Nat), rfl, (show (3 : Nat) ≤ sizeLine by decide), fun p1 n1 => ⟨(show (2 : Nat) ≤ sizeLine by decide), fun p2 n2 => ?_⟩⟩⟩
        obtain ⟨s1, h1⟩ := err_fin (K := K) [1, (j : Int), 0] "list" n1 n2
        refine q _ _ (s34.trans s1) ?_
        rw [fin (by rw [hge, hL]; rfl)]
        exact h1
      | true =>
      refine ⟨_, rfl, iteF ⟨.ref ga, rfl, ga, _, 1, vb, rfl, rfl, (TupK.of s4).sq hg, atI_nat (j := 1) rfl, st, r, vb, db, _, _, rfl, hvb.lasts (.of s4), ?_⟩⟩
      cases hw2 : withinD 1 bigI db with
      | false =>
        refine ⟨_, rfl, iteT ⟨.int (j : Nat), rfl, (show (3 : Nat) ≤ sizeLine by decide), fun p1 n1 => ⟨(show (2 : Nat) ≤ sizeLine by decide), fun p2 n2 => ?_⟩⟩⟩
        obtain ⟨s1, h1⟩ := err_fin (K := K) [1, (j : Int), 1] "count" n1 n2
        refine q _ _ (s34.trans s1) ?_
        rw [fin (by rw [hge, hL, hw2]; rfl)]
        exact h1
      | true =>
        refine ⟨_, rfl, iteF ⟨_, _, rfl, s34, fun m hm d' hd' => ?_⟩⟩
        by_cases hmj : m < j
        · exact hpre m hmj d' hd'
        · obtain rfl : m = j := by omega
          rw [hdy] at hd'
          cases hd'
          rw [Nat.zero_add, hge, hL, hw2]; rfl
    · rintro σ H2 ⟨y1, y2, rfl, s2, hpre⟩
      refine q _ _ s2 ?_
      rw [hE, firstErr_none (fun j d hj => hpre j (by have := (List.getElem?_eq_some_iff.mp hj).1; omega) d hj)]
      exact .non
theorem firstErr_err {ge : Nat → PyData → Option PyData} (h : ∀ i d e, ge i d = some e → ∃ p s, e = err p s) : ∀ (ds : List PyData) (i : Nat) (e : PyData), firstErr ge i ds = some e → ∃ p s, e = err p s
  | [], _, _, he => by cases he
  | d :: ds, i, e, he => by
    unfold firstErr at he
    cases h1 : ge i d with
    | some e' => rw [h1] at he; cases he; exact h i d _ h1
    | none => rw [h1] at he; exact firstErr_err h ds (i + 1) e he
theorem capE_err : ∀ (i : Nat) (d e : PyData), capE i d = some e → ∃ p s, e = err p s := by
  intro i d e h
  unfold capE at h
  split at h
  · cases h
  · cases h; exact ⟨_, _, rfl⟩
theorem grpE_err (n : Int) : ∀ (i : Nat) (d e : PyData), grpE n i d = some e → ∃ p s, e = err p s := by
  intro i d e h
  unfold grpE at h
  split at h
  · split at h
    · split at h
      · cases h
      · cases h; exact ⟨_, _, rfl⟩
    · cases h; exact ⟨_, _, rfl⟩
  · cases h; exact ⟨_, _, rfl⟩
theorem postsE_err {a e : PyData} (h : postsE a = some e) : ∃ p s, e = err p s := by
  unfold postsE at h
  split at h
  · exact firstErr_err capE_err _ _ _ h
  · cases h; exact ⟨_, _, rfl⟩
theorem groupsE_err {n : Int} {a e : PyData} (h : groupsE n a = some e) : ∃ p s, e = err p s := by
  unfold groupsE at h
  split at h
  · exact firstErr_err (grpE_err n) _ _ _ h
  · cases h; exact ⟨_, _, rfl⟩
theorem instE_pair (a b : PyData) : instE (.tuple [a, b]) = match postsE a with
    | some e => some e
    | none => groupsE ((tupItems a).length : Nat) b := rfl
theorem instE_err {a e : PyData} (h : instE a = some e) : ∃ p s, e = err p s := by
  unfold instE at h
  split at h
  · split at h
    · rename_i hp; cases h; exact postsE_err hp
    · exact groupsE_err h
  · cases h; exact ⟨_, _, rfl⟩
theorem err_ref {H : Hp} {x : V} {p : List Int} {sx : Str} (h : Dp K H x (err p sx)) : ∃ a, x = .ref a := by
  unfold err at h
  cases h
  exact ⟨_, rfl⟩
theorem postsE_ok {a : PyData} (h : postsE a = none) : ∃ ds, a = .tuple ds ∧ 1 ≤ ds.length ∧ ds.length ≤ 6 := by
  unfold postsE at h
  cases hb : tupOfD 1 6 a with
  | false => rw [hb] at h; cases h
  | true =>
    cases a with
    | tuple ds => exact ⟨ds, rfl, by have := of_decide_eq_true hb; omega, by have := of_decide_eq_true hb; omega⟩
    | _ => simp [tupOfD] at hb
end
end Pv

namespace Pv
open PySem PySem.Spec PyProof.Rows L2
/-! no tuple is long -/
mutual
def nar (L : Nat) : PyData → Prop
  | .tuple xs => xs.length ≤ L ∧ narAll L xs
  | .list xs => narAll L xs
  | _ => True
def narAll (L : Nat) : List PyData → Prop
  | [] => True
  | x :: xs => nar L x ∧ narAll L xs
end
theorem narAll_iff {L : Nat} : ∀ {xs : List PyData}, narAll L xs ↔ ∀ x ∈ xs, nar L x
  | [] => by simp [narAll]
  | x :: xs => by simp [narAll, narAll_iff (xs := xs)]
theorem nar_tup {L : Nat} {xs : List PyData} : nar L (.tuple xs) ↔ xs.length ≤ L ∧ ∀ x ∈ xs, nar L x := by simp only [nar, narAll_iff]
end Pv

namespace Pv
open PySem PySem.Spec PyProof.Rows L2
abbrev sSame : Stmt := topS 28
theorem scSame : FnScope ["_law_found", "_law_due_here", "_law_k"] ["_law_found", "_law_due_here"] (defScope sSame) := ⟨rfl, rfl, rfl, by decide +kernel, rfl, by decide +kernel, by decide +kernel⟩
mutual
def plain : PyData → Bool
  | .none | .int _ | .bool _ | .str _ => true
  | .list xs | .tuple xs => decide (xs.length ≤ 1000) && plainAll xs
  | _ => false
def plainAll : List PyData → Bool
  | [] => true
  | x :: xs => plain x && plainAll xs
end
theorem plainAll_at : ∀ {xs : List PyData} {i : Nat} {d : PyData}, plainAll xs = true → xs[i]? = some d → plain d = true
  | [], _, _, _, e => by simp at e
  | x :: xs, 0, d, h, e => by simp [plainAll] at h e; subst e; exact h.1
  | x :: xs, i + 1, d, h, e => by simp [plainAll] at h e; exact plainAll_at h.2 e
theorem depthAll_at : ∀ {xs : List PyData} {i : Nat} {d : PyData}, xs[i]? = some d → d.depth ≤ PyData.depthAll xs
  | [], _, _, e => by simp at e
  | x :: xs, 0, d, e => by simp at e; subst e; simp only [PyData.depthAll]; omega
  | x :: xs, i + 1, d, e => by
    have := depthAll_at (xs := xs) (i := i) (d := d) (by simpa using e)
    simp only [PyData.depthAll]; omega
inductive SeqAs (K : PySem.W.Frag) (H : Hp) (a : Addr) (xs : List V) : String → Prop
  | l : SqL K H a xs → SeqAs K H a xs "list"
  | t : SqT K H a xs → SeqAs K H a xs "tuple"
section
variable {K : PySem.W.Frag} {H H' : Hp} {a : Addr} {xs : List V} {T : String}
theorem SeqAs.same (h : SeqAs K H a xs T) (s : Same H H') : SeqAs K H' a xs T := by
  cases h with
  | l h => exact .l (s.seq h)
  | t h => exact .t ((TupK.of s).sq h)
theorem SeqAs.ty (h : SeqAs K H a xs T) : TyX K H (.ref a) (.type T) := by
  cases h with
  | l h => exact ty_sqL h
  | t h => exact ty_sq h
theorem SeqAs.or (h : SeqAs K H a xs T) : SqL K H a xs ∨ SqT K H a xs := by
  cases h with
  | l h => exact .inl h
  | t h => exact .inr h
theorem SeqAs.ix (h : SeqAs K H a xs T) {j : Nat} {v : V} {Q : VK} (e : xs[j]? = some v) (q : Q v H) : rIx K (.ref a) (.int j) H Q := by
  cases h with
  | l h => exact .inl ⟨a, xs, _, v, rfl, rfl, h, atI_nat e, q⟩
  | t h => exact .inr (.inl ⟨a, xs, _, v, rfl, rfl, h, atI_nat e, q⟩)
theorem SeqAs.kit (h : SeqAs K H a xs T) (S : String) (hS : S = "list" ∨ S = "tuple") : PySem.W.kitOne K (.type T) (.type S) = some (T == S) := by
  cases h <;> rcases hS with rfl | rfl <;> exact kit_ty (by decide +kernel)
theorem SeqAs.kits (h : SeqAs K H a xs T) : PySem.W.kitAny K (.type T) [.type "list", .type "tuple"] = some true := by
  cases h with
  | l h => exact kitAny_cons (kit_ty (b := "list") (r := true) (by decide +kernel)) (fun z => by cases z) (fun _ => rfl)
  | t h => exact kitAny_cons (kit_ty (b := "list") (r := false) (by decide +kernel)) (fun _ => kitAny_cons (kit_ty (b := "tuple") (r := true) (by decide +kernel)) (fun z => by cases z) (fun _ => rfl)) (fun z => by cases z)
end
section
variable {P : Program} {w : World} {K : PySem.W.Frag} {mg : Str → Option Value} {base : Heap}
def spS (K : PySem.W.Frag) : Nat → Sp
  | 0 => fun _ _ _ _ => False
  | n + 1 => fun vs H Q _ => ∃ (x y : V) (d : PyData), vs = [x, y] ∧ Dp K H x d ∧ Dp K H y d ∧ plain d = true ∧ d.depth ≤ n ∧ ∀ H', Same H H' → Q (.bl true) H'
mutual
theorem same_dp {H H' : Hp} (s : Same H H') : ∀ {d : PyData} {v : V}, plain d = true → Dp K H v d → Dp K H' v d
  | .none, _, _, h => by cases h; exact .non
  | .int _, _, _, h => by cases h; exact .int _
  | .list xs, _, t, h => by
    simp only [plain, Bool.and_eq_true] at t
    cases h with
    | lst h1 h2 => exact .lst (s.seq h1) (same_dpAll s t.2 h2)
  | .tuple xs, _, t, h => by
    simp only [plain, Bool.and_eq_true] at t
    cases h with
    | tup h1 h2 => exact .tup ((TupK.of s).sq h1) (same_dpAll s t.2 h2)
  | .bool _, _, _, h => by cases h; exact .bl _
  | .str _, _, _, h => by cases h; exact .str _
  | .dict _, _, t, _ => by simp [plain] at t
theorem same_dpAll {H H' : Hp} (s : Same H H') : ∀ {ds : List PyData} {vs : List V}, plainAll ds = true → DpAll K H vs ds → DpAll K H' vs ds
  | [], _, _, h => by cases h; exact .nil
  | d :: ds, _, t, h => by
    simp only [plainAll, Bool.and_eq_true] at t
    cases h with
    | cons h1 h2 => exact .cons (same_dp s t.1 h1) (same_dpAll s t.2 h2)
end
theorem eqv_nil : PyData.eqv (.list []) (.list []) = true := by simp [PyData.eqv, PyData.eqvAll]
set_option maxHeartbeats 4000000 in
theorem ok_same {f : Addr} {fd : FuncData} (F : Fun K "_law_same" "_law_same" sSame f fd) (b : Binds K fd ["_law_found", "_law_due_here"] []) (g : mg "_law_same" = some (.ref f))
    (mi : mg "isinstance" = none) (mli : mg "list" = none) (mt : mg "tuple" = none) (ml : mg "len" = none) (mr : mg "range" = none) (mst : mg "str" = none) (mint : mg "int" = none) (mbo : mg "bool" = none) :
    ∀ n, FnOk P w K mg base CX0 n f fd ["_law_found", "_law_due_here"] (spS K n)
  | 0 => FnOk.none
  | n + 1 => by
    have G := ok_same F b g mi mli mt ml mr mst mint mbo n
    refine F.ok scSame (fun vs H Q E h => ?_) (fun cdv A outer s H vs Q E hr h => ?_)
    · obtain ⟨x, y, d, rfl, _⟩ := h; rfl
    · obtain ⟨x, y, d, rfl, hx, hy, hpl, hdp, q⟩ := h
      have hu64 : (A.deeper (envOfC "_law_same" (defScope sSame) s.heap.objs.size f cdv)).units + 64 < cLine := by have := hr.un; omega
      refine ⟨_, pss_cons (ps_if (pt_val (pe_callB call_isiT (by rfl) mi (by decide +kernel) (pa_cons (pv 1) (pa_cons (pe_tup (pa_cons (pe_bltn (v := .ty "list") (by rfl) mli (by decide +kernel) rfl) (pa_cons (pe_bltn (v := .ty "tuple") (by rfl) mt (by decide +kernel) rfl) pa_nil))) pa_nil))))
          (pss_cons (ps_if (PW.pt (pw_or (pt_cmpR op_ne (pe_callB call_isi (by rfl) mi (by decide +kernel) (pa_cons (pv 0) (pa_cons (pe_bltn (v := .ty "list") (by rfl) mli (by decide +kernel) rfl) pa_nil)))
                (pe_callB call_isi (by rfl) mi (by decide +kernel) (pa_cons (pv 1) (pa_cons (pe_bltn (v := .ty "list") (by rfl) mli (by decide +kernel) rfl) pa_nil))) (nomark _))
              (pw_or1 (pt_cmpR op_ne (pe_callB call_isi (by rfl) mi (by decide +kernel) (pa_cons (pv 0) (pa_cons (pe_bltn (v := .ty "tuple") (by rfl) mt (by decide +kernel) rfl) pa_nil)))
                (pe_callB call_isi (by rfl) mi (by decide +kernel) (pa_cons (pv 1) (pa_cons (pe_bltn (v := .ty "tuple") (by rfl) mt (by decide +kernel) rfl) pa_nil))) (nomark _))))) (pss_one (ps_ret pe_bl)) pss_nil)
          (pss_cons (ps_if (pt_cmpR op_ne (pe_callB call_len_seq (by rfl) ml PySem.boot_len (pa_cons (pv 0) pa_nil)) (pe_callB call_len_seq (by rfl) ml PySem.boot_len (pa_cons (pv 1) pa_nil)) (nomark _)) (pss_one (ps_ret pe_bl)) pss_nil)
          (pss_one (ps_ret (pe_cmpR (op_eqD hu64)
            (pe_lc (own := [("_law_k", 2)]) (g := gName 2) (tt := tNot (tB (tCall (spS K n) [] E0 (tCons (tOp (rIx K) (tVar 0) (tVar 2)) (tCons (tOp (rIx K) (tVar 1) (tVar 2)) tNil))))) (te := tVar 2) rfl scSame.nd
              (pi_range1 (by rfl) mr (pa_cons (pe_callB call_len_seq (by rfl) ml PySem.boot_len (pa_cons (pv 1) pa_nil)) pa_nil)) (blkOk_by (N := ["_law_found", "_law_due_here", "_law_k"]) (sc := defScope sSame) (by decide +kernel))
              (fun _ _ _ _ _ => pg_name (i := 2) scSame.nd rfl (.inl rfl))
              (fun _ _ _ _ _ => pts_one (pt_not (pt_val (pe_call G hr (by rfl) g F.kp b .nil pass0 (pa_cons (pe_ix ix_seq (pv 0) (pv 2) (fun _ _ => rfl)) (pa_cons (pe_ix ix_seq (pv 1) (pv 2) (fun _ _ => rfl)) pa_nil))))))
              (fun _ _ _ _ _ => pv 2))
            (pe_lst pa_nil) (nomark _)))))) pss_nil)
        (pss_cons (ps_if (pt_cmp (pc_isN (pv 1))) (pss_one (ps_ret (pe_cmp (pc_isN (pv 0))))) pss_nil)
        (pss_cons (ps_if (pt_val (pe_callB call_isi (by rfl) mi (by decide +kernel) (pa_cons (pv 1) (pa_cons (pe_bltn (v := .ty "str") (by rfl) mst (by decide +kernel) rfl) pa_nil))))
          (pss_one (ps_ret (pe_and (pe_callB call_isi (by rfl) mi (by decide +kernel) (pa_cons (pv 0) (pa_cons (pe_bltn (v := .ty "str") (by rfl) mst (by decide +kernel) rfl) pa_nil))) (pe_one (pe_cmpR op_eq (pv 0) (pv 1) (nomark _)))))) pss_nil)
        (pss_one (ps_ret (pe_and (pe_callB call_isi (by rfl) mi (by decide +kernel) (pa_cons (pv 0) (pa_cons (pe_bltn (v := .ty "int") (by rfl) mint (by decide +kernel) rfl) pa_nil)))
          (pe_and (pe_cmpR op_eq (pe_callB call_isi (by rfl) mi (by decide +kernel) (pa_cons (pv 0) (pa_cons (pe_bltn (v := .ty "bool") (by rfl) mbo (by decide +kernel) rfl) pa_nil)))
            (pe_callB call_isi (by rfl) mi (by decide +kernel) (pa_cons (pv 1) (pa_cons (pe_bltn (v := .ty "bool") (by rfl) mbo (by decide +kernel) rfl) pa_nil))) (nomark _))
            (pe_one (pe_cmpR op_eq (pv 0) (pv 1) (nomark _))))))))), ?_⟩
      refine ⟨y, rfl, (show (2 : Nat) ≤ sizeLine by decide), fun tp ntp => ?_⟩
      have s1 : Same H (upd H tp (.tup [.ty "list", .ty "tuple"])) := sameNew ntp
      have cls : (∃ (T : String) (a b' : Addr) (xs ys : List V) (ds : List PyData), x = .ref a ∧ y = .ref b' ∧ SeqAs K H a xs T ∧ SeqAs K H b' ys T ∧ DpAll K H xs ds ∧ DpAll K H ys ds ∧ ds.length ≤ 1000 ∧ plainAll ds = true ∧ PyData.depthAll ds + 1 ≤ n) ∨
          (x = .non ∧ y = .non) ∨ (∃ i, x = .int i ∧ y = .int i) ∨ (∃ b, x = .bl b ∧ y = .bl b) ∨ ∃ z, x = .str z ∧ y = .str z := by
        cases d with
        | none => cases hx; cases hy; exact .inr (.inl ⟨rfl, rfl⟩)
        | int i => cases hx; cases hy; exact .inr (.inr (.inl ⟨i, rfl, rfl⟩))
        | list ds =>
          simp only [plain, Bool.and_eq_true, decide_eq_true_eq] at hpl
          simp only [PyData.depth] at hdp
          cases hx with
          | lst h1 h2 => cases hy with
            | lst h3 h4 => exact .inl ⟨"list", _, _, _, _, ds, rfl, rfl, .l h1, .l h3, h2, h4, hpl.1, hpl.2, hdp⟩
        | tuple ds =>
          simp only [plain, Bool.and_eq_true, decide_eq_true_eq] at hpl
          simp only [PyData.depth] at hdp
          cases hx with
          | tup h1 h2 => cases hy with
            | tup h3 h4 => exact .inl ⟨"tuple", _, _, _, _, ds, rfl, rfl, .t h1, .t h3, h2, h4, hpl.1, hpl.2, hdp⟩
        | bool bb => cases hx; cases hy; exact .inr (.inr (.inr (.inl ⟨bb, rfl, rfl⟩)))
        | str z => cases hx; cases hy; exact .inr (.inr (.inr (.inr ⟨z, rfl, rfl⟩)))
        | dict _ => simp [plain] at hpl
      rcases cls with ⟨T, a, b', xs, ys, ds, rfl, rfl, hX, hY, dx, dy, hds, hpa, hda⟩ | ⟨rfl, rfl⟩ | ⟨i, rfl, rfl⟩ | ⟨bb, rfl, rfl⟩ | ⟨z, rfl, rfl⟩
      · have hX1 := hX.same s1
        have hY1 := hY.same s1
        refine ⟨.ref b', tp, _, _, _, true, rfl, upd_same, .cons (.ty _) (.cons (.ty _) .nil), hY1.ty, hY1.kits, true, rfl, iteT ?_⟩
        refine ⟨.ref a, rfl, .ref a, .ty "list", _, _, _, rfl, .ty _, hX1.ty, hX1.kit "list" (.inl rfl), .ref b', rfl, .ref b', .ty "list", _, _, _, rfl, .ty _, hY1.ty, hY1.kit "list" (.inl rfl), rfl, _, rfl, iteNS rfl ?_⟩
        refine ⟨.ref a, rfl, .ref a, .ty "tuple", _, _, _, rfl, .ty _, hX1.ty, hX1.kit "tuple" (.inr rfl), .ref b', rfl, .ref b', .ty "tuple", _, _, _, rfl, .ty _, hY1.ty, hY1.kit "tuple" (.inr rfl), rfl, _, rfl, iteNS rfl ?_⟩
        have lx := DpAll.len dx
        have ly := DpAll.len dy
        refine ⟨.ref a, rfl, a, xs, rfl, hX1.or, .ref b', rfl, b', ys, rfl, hY1.or, rfl, _, rfl, iteNS (by rw [lx, ly]) ?_⟩
        refine ⟨.ref b', rfl, b', ys, rfl, hY1.or, _, rfl, by omega, by omega, fun D nD => lc_it (walk_range (lo := 0) (n := (ys.length : Int).toNat))
          (fun j H2 => Same H H2 ∧ H2 D = some (.lst [])) ⟨s1.trans (sameNew nD), upd_same⟩ (fun _ _ _ _ => trivial) ?_ ?_⟩
        · rintro j v H2 H3 hlt ⟨s2, e2⟩ ⟨rfl, rfl⟩
          have hj : j < ys.length := by omega
          have hj2 : j < xs.length := by omega
          have ex : xs[j]? = some xs[j] := List.getElem?_eq_getElem hj2
          have ey : ys[j]? = some ys[j] := List.getElem?_eq_getElem hj
          obtain ⟨d1, hd1, hx1⟩ := DpAll.at dx ex
          obtain ⟨d2, hd2, hy1⟩ := DpAll.at dy ey
          rw [hd1] at hd2
          cases hd2
          have hpd := plainAll_at hpa hd1
          have hdd := depthAll_at hd1
          obtain ⟨n', rfl⟩ : ∃ n', n = n' + 1 := ⟨n - 1, by omega⟩
          have e0 : (0 : Int) + (j : Nat) = (j : Nat) := by omega
          dsimp only
          rw [e0]
          refine ⟨rfl, .ref a, rfl, .int (j : Nat), rfl, (hX.same s2).ix ex ⟨.ref b', rfl, .int (j : Nat), rfl, (hY.same s2).ix ey ?_⟩⟩
          refine ⟨_, _, d1, rfl, same_dp s2 hpd hx1, same_dp s2 hpd hy1, hpd, by omega, fun H4 s4 => ⟨_, rfl, ?_⟩⟩
          exact ⟨s2.trans s4, s4 _ _ e2⟩
        · rintro H2 ⟨s2, e2⟩
          refine ⟨Nat.zero_le _, fun p np => ⟨.list [], .list [], .lst (SqL.of (upNew np e2)) .nil, .lst (SqL.of upd_same) .nil, by decide, by decide, ?_⟩⟩
          rw [eqv_nil]
          exact q _ (s2.trans (sameNew np))
      · have kn : PySem.W.kitAny K (.type "NoneType") [.type "list", .type "tuple"] = some false :=
          kitAny_cons (kit_ty (b := "list") (r := false) (by decide +kernel)) (fun _ => kitAny_cons (kit_ty (b := "tuple") (r := false) (by decide +kernel)) (fun _ => kitAny_nil) (fun z => by cases z)) (fun z => by cases z)
        refine ⟨.non, tp, _, _, _, false, rfl, upd_same, .cons (.ty _) (.cons (.ty _) .nil), .base .non, kn, false, rfl, iteF ?_⟩
        refine ⟨.non, rfl, _, rfl, iteT ?_⟩
        exact ⟨.non, rfl, q _ s1⟩
      · have kn : PySem.W.kitAny K (.type "int") [.type "list", .type "tuple"] = some false :=
          kitAny_cons (kit_ty (b := "list") (r := false) (by decide +kernel)) (fun _ => kitAny_cons (kit_ty (b := "tuple") (r := false) (by decide +kernel)) (fun _ => kitAny_nil) (fun z => by cases z)) (fun z => by cases z)
        refine ⟨.int i, tp, _, _, _, false, rfl, upd_same, .cons (.ty _) (.cons (.ty _) .nil), .base (.int i), kn, false, rfl, iteF ?_⟩
        refine ⟨.int i, rfl, _, rfl, iteF ?_⟩
        refine ⟨.int i, rfl, .int i, .ty "str", _, _, false, rfl, .ty _, .base (.int i), kit_ty (by decide +kernel), false, rfl, iteF ?_⟩
        refine ⟨.int i, rfl, .int i, .ty "int", _, _, true, rfl, .ty _, .base (.int i), kit_ty (by decide +kernel), true, rfl, iteT ?_⟩
        refine ⟨.int i, rfl, .int i, .ty "bool", _, _, false, rfl, .ty _, .base (.int i), kit_ty (by decide +kernel), .int i, rfl, .int i, .ty "bool", _, _, false, rfl, .ty _, .base (.int i), kit_ty (by decide +kernel), rfl, _, rfl, iteT ?_⟩
        refine ⟨.int i, rfl, .int i, rfl, rfl, ?_⟩
        have := q _ s1
        rw [decide_eq_true rfl]
        exact this
      · have kn : PySem.W.kitAny K (.type "bool") [.type "list", .type "tuple"] = some false :=
          kitAny_cons (kit_ty (b := "list") (r := false) (by decide +kernel)) (fun _ => kitAny_cons (kit_ty (b := "tuple") (r := false) (by decide +kernel)) (fun _ => kitAny_nil) (fun z => by cases z)) (fun z => by cases z)
        refine ⟨.bl bb, tp, _, _, _, false, rfl, upd_same, .cons (.ty _) (.cons (.ty _) .nil), .base (.bl bb), kn, false, rfl, iteF ?_⟩
        refine ⟨.bl bb, rfl, _, rfl, iteF ?_⟩
        refine ⟨.bl bb, rfl, .bl bb, .ty "str", _, _, false, rfl, .ty _, .base (.bl bb), kit_ty (by decide +kernel), false, rfl, iteF ?_⟩
        refine ⟨.bl bb, rfl, .bl bb, .ty "int", _, _, true, rfl, .ty _, .base (.bl bb), kit_ty (by decide +kernel), true, rfl, iteT ?_⟩
        refine ⟨.bl bb, rfl, .bl bb, .ty "bool", _, _, true, rfl, .ty _, .base (.bl bb), kit_ty (by decide +kernel), .bl bb, rfl, .bl bb, .ty "bool", _, _, true, rfl, .ty _, .base (.bl bb), kit_ty (by decide +kernel), rfl, _, rfl, iteT ?_⟩
        refine ⟨.bl bb, rfl, .bl bb, rfl, rfl, ?_⟩
        have := q _ s1
        rw [decide_eq_true rfl]
        exact this
      · have kn : PySem.W.kitAny K (.type "str") [.type "list", .type "tuple"] = some false :=
          kitAny_cons (kit_ty (b := "list") (r := false) (by decide +kernel)) (fun _ => kitAny_cons (kit_ty (b := "tuple") (r := false) (by decide +kernel)) (fun _ => kitAny_nil) (fun z => by cases z)) (fun z => by cases z)
        refine ⟨.str z, tp, _, _, _, false, rfl, upd_same, .cons (.ty _) (.cons (.ty _) .nil), .base (.str z), kn, false, rfl, iteF ?_⟩
        refine ⟨.str z, rfl, _, rfl, iteF ?_⟩
        refine ⟨.str z, rfl, .str z, .ty "str", _, _, true, rfl, .ty _, .base (.str z), kit_ty (by decide +kernel), true, rfl, iteT ?_⟩
        refine ⟨.str z, rfl, .str z, .ty "str", _, _, true, rfl, .ty _, .base (.str z), kit_ty (by decide +kernel), true, rfl, iteT ?_⟩
        refine ⟨.str z, rfl, .str z, rfl, rfl, ?_⟩
        have := q _ s1
        rw [decide_eq_true rfl]
        exact this
end
end Pv

namespace Pv
open PySem PySem.Spec PyProof.Rows L2
/-! how large data is -/
mutual
def fit (M : Nat) : PyData → Prop
  | .none => True
  | .bool _ => True
  | .int i => i.natAbs ≤ M
  | .str x => (reprText x).length ≤ 400
  | .list xs => fitAll M xs
  | .tuple xs => fitAll M xs
  | .dict kvs => (PyData.shown (.dict kvs)).length ≤ 40 ∧ PyData.showable (.dict kvs) = true
def fitAll (M : Nat) : List PyData → Prop
  | [] => True
  | x :: xs => fit M x ∧ fitAll M xs
end
mutual
def wt : PyData → Nat
  | .none => 40
  | .bool _ => 40
  | .int _ => 40
  | .str _ => 400
  | .list xs => wtAll xs + 3
  | .tuple xs => wtAll xs + 3
  | .dict _ => 40
def wtAll : List PyData → Nat
  | [] => 0
  | x :: xs => wt x + 2 + wtAll xs
end
theorem int_text {i : Int} {M : Nat} (h : i.natAbs ≤ M) (hM : M < 10 ^ 35) : (PyData.int i).showable = true ∧ (PyData.int i).shown.length ≤ 40 := by
  have h' : i.natAbs < 10 ^ 35 := by omega
  refine ⟨?_, ?_⟩
  · simp only [PyData.showable, decide_eq_true_eq]
    have : i.natAbs.log2 < 200 := by
      by_cases h0 : i.natAbs = 0
      · rw [h0]; decide
      · exact (Nat.log2_lt h0).mpr (Nat.lt_trans h' (by decide))
    omega
  · have e := int_text_length_le10 (k := 35) (by decide) h'
    show (Str.ofString (toString i)).length ≤ 40
    rw [PySem.ofString_length]
    omega
mutual
theorem fit_ok {M : Nat} (hM : M < 10 ^ 35) : ∀ {d : PyData}, fit M d → d.showable = true ∧ d.shown.length ≤ wt d
  | .none, _ => by simp only [PyData.showable, PyData.shown, wt]; decide
  | .bool b, _ => by cases b <;> (simp only [PyData.showable, PyData.shown, wt]; decide)
  | .int i, h => by
    have := int_text (i := i) (M := M) (by simpa only [fit] using h) hM
    simp only [wt]; exact this
  | .str x, h => by simp only [fit] at h; simp only [PyData.showable, PyData.shown, wt]; exact ⟨trivial, h⟩
  | .list xs, h => by
    obtain ⟨h1, h2⟩ := fitAll_ok hM (xs := xs) (by simpa only [fit] using h)
    simp only [PyData.showable, PyData.shown, wt]
    refine ⟨h1, ?_⟩
    have e := listText_len_le (PyData.shownAll xs)
    omega
  | .tuple xs, h => by
    obtain ⟨h1, h2⟩ := fitAll_ok hM (xs := xs) (by simpa only [fit] using h)
    simp only [PyData.showable, PyData.shown, wt]
    refine ⟨h1, ?_⟩
    have e := tupleText_len_le (PyData.shownAll xs)
    omega
  | .dict kvs, h => by simp only [fit] at h; simp only [wt]; exact ⟨h.2, h.1⟩
theorem fitAll_ok {M : Nat} (hM : M < 10 ^ 35) : ∀ {xs : List PyData}, fitAll M xs → PyData.showableAll xs = true ∧ ((PyData.shownAll xs).map (·.length)).sum + 2 * (PyData.shownAll xs).length ≤ wtAll xs
  | [], _ => by simp [PyData.showableAll, PyData.shownAll, wtAll]
  | x :: xs, h => by
    have h' : fit M x ∧ fitAll M xs := by simpa only [fitAll] using h
    obtain ⟨a1, a2⟩ := fit_ok hM h'.1
    obtain ⟨b1, b2⟩ := fitAll_ok hM h'.2
    refine ⟨by simp [PyData.showableAll, a1, b1], ?_⟩
    simp only [PyData.shownAll, List.map_cons, List.sum_cons, List.length_cons, wtAll]
    omega
end
mutual
theorem fit_mono {M M' : Nat} (h : M ≤ M') : ∀ {d : PyData}, fit M d → fit M' d
  | .none, _ => by simp [fit]
  | .bool _, _ => by simp [fit]
  | .int i, q => by simp only [fit] at *; omega
  | .str x, q => by simpa only [fit] using q
  | .list xs, q => by simp only [fit] at *; exact fitAll_mono h q
  | .tuple xs, q => by simp only [fit] at *; exact fitAll_mono h q
  | .dict _, q => by simpa only [fit] using q
theorem fitAll_mono {M M' : Nat} (h : M ≤ M') : ∀ {xs : List PyData}, fitAll M xs → fitAll M' xs
  | [], _ => by simp [fitAll]
  | x :: xs, q => by
    have q' : fit M x ∧ fitAll M xs := by simpa only [fitAll] using q
    simp only [fitAll]
    exact ⟨fit_mono h q'.1, fitAll_mono h q'.2⟩
end
theorem fitAll_iff {M : Nat} : ∀ {xs : List PyData}, fitAll M xs ↔ ∀ x ∈ xs, fit M x
  | [] => by simp [fitAll]
  | x :: xs => by simp [fitAll, fitAll_iff (xs := xs)]
theorem wtAll_app : ∀ (xs ys : List PyData), wtAll (xs ++ ys) = wtAll xs + wtAll ys
  | [], ys => by simp [wtAll]
  | x :: xs, ys => by simp only [List.cons_append, wtAll, wtAll_app xs ys]; omega
theorem wtAll_rev : ∀ xs : List PyData, wtAll xs.reverse = wtAll xs
  | [] => rfl
  | x :: xs => by rw [List.reverse_cons, wtAll_app, wtAll_rev xs]; simp only [wtAll]; omega
theorem wtAll_split (xs : List PyData) (n : Nat) : wtAll xs = wtAll (xs.take n) + wtAll (xs.drop n) := by rw [← wtAll_app, List.take_append_drop]
theorem wtAll_len : ∀ xs : List PyData, 2 * xs.length ≤ wtAll xs
  | [] => by simp [wtAll]
  | x :: xs => by have := wtAll_len xs; simp only [wtAll, List.length_cons]; omega
theorem depthAll_le {k : Nat} : ∀ {xs : List PyData}, PyData.depthAll xs ≤ k ↔ ∀ x ∈ xs, x.depth ≤ k
  | [] => by simp [PyData.depthAll]
  | x :: xs => by
    have := depthAll_le (k := k) (xs := xs)
    simp only [PyData.depthAll, List.mem_cons, forall_eq_or_imp, ← this]
    omega
structure Fit (M k W : Nat) (d : PyData) : Prop where
  ok : fit M d
  dp : d.depth ≤ k
  wt : wt d ≤ W
theorem Fit.mono {M M' k k' W W' : Nat} {d : PyData} (h : Fit M k W d) (h1 : M ≤ M') (h2 : k ≤ k') (h3 : W ≤ W') : Fit M' k' W' d := ⟨fit_mono h1 h.ok, Nat.le_trans h.dp h2, Nat.le_trans h.wt h3⟩
theorem Fit.at {M k W : Nat} {ds : List PyData} {d : PyData} (h : Fit M k W (.tuple ds)) (hm : d ∈ ds) : Fit M (k - 1) W d ∧ d.depth + 1 ≤ (PyData.tuple ds).depth ∧ 1 ≤ k := by
  have h1 : fitAll M ds := by have := h.ok; simpa only [fit] using this
  have h2 := h.dp
  simp only [PyData.depth] at h2
  have h3 : ∀ x ∈ ds, x.depth ≤ PyData.depthAll ds := depthAll_le.mp (Nat.le_refl _)
  have h4 := h3 d hm
  refine ⟨⟨fitAll_iff.mp h1 d hm, by omega, ?_⟩, by simp only [PyData.depth]; omega, by omega⟩
  obtain ⟨a, b, rfl⟩ := List.append_of_mem hm
  have h5 := h.wt
  simp only [Pv.wt, wtAll_app, wtAll] at h5
  omega
/-- a tuple made of parts -/
theorem Fit.tup {M k W : Nat} {ds : List PyData} (h1 : ∀ d ∈ ds, fit M d ∧ d.depth + 1 ≤ k) (h0 : 1 ≤ k) (h2 : wtAll ds + 3 ≤ W) : Fit M k W (.tuple ds) := by
  refine ⟨by simp only [fit]; exact fitAll_iff.mpr fun d hd => (h1 d hd).1, ?_, by simpa only [Pv.wt] using h2⟩
  simp only [PyData.depth]
  have : PyData.depthAll ds ≤ k - 1 := depthAll_le.mpr fun d hd => by have := (h1 d hd).2; omega
  omega
theorem Fit.lst {M k W : Nat} {ds : List PyData} (h1 : ∀ d ∈ ds, fit M d ∧ d.depth + 1 ≤ k) (h0 : 1 ≤ k) (h2 : wtAll ds + 3 ≤ W) : Fit M k W (.list ds) := by
  refine ⟨by simp only [fit]; exact fitAll_iff.mpr fun d hd => (h1 d hd).1, ?_, by simpa only [Pv.wt] using h2⟩
  simp only [PyData.depth]
  have : PyData.depthAll ds ≤ k - 1 := depthAll_le.mpr fun d hd => by have := (h1 d hd).2; omega
  omega
theorem Fit.parts {M k W : Nat} {ds : List PyData} (h : Fit M k W (.tuple ds)) : (∀ d ∈ ds, fit M d ∧ d.depth + 1 ≤ k) ∧ 1 ≤ k ∧ wtAll ds + 3 ≤ W := by
  have h0 : 1 ≤ k := by have := h.dp; simp only [PyData.depth] at this; omega
  refine ⟨fun d hd => ⟨(h.at hd).1.ok, ?_⟩, h0, by have := h.wt; simpa only [Pv.wt] using this⟩
  have := (h.at hd).1.dp
  omega
theorem Fit.int {M k W : Nat} {i : Int} (h : i.natAbs ≤ M) (hW : 40 ≤ W) : Fit M k W (.int i) := ⟨by simpa only [fit] using h, by simp [PyData.depth], by simpa only [Pv.wt] using hW⟩
/-- what is shown together -/
theorem fit_pair {M : Nat} (hM : M < 10 ^ 35) {k W : Nat} {a b : PyData} (ha : Fit M k W a) (hb : Fit M k W b) (hk : k ≤ 50) (hW : W ≤ 1000000) :
    (PyData.list [a, b]).showable = true ∧ (PyData.list [a, b]).depth ≤ 60 ∧ (PyData.list [a, b]).shown.length ≤ sizeLine := by
  have h : Fit M (k + 1) (2 * W + 10) (.list [a, b]) := by
    refine Fit.lst ?_ (by omega) ?_
    · intro d hd
      rcases List.mem_cons.mp hd with rfl | hd
      · exact ⟨ha.ok, by have := ha.dp; omega⟩
      · rcases List.mem_cons.mp hd with rfl | hd
        · exact ⟨hb.ok, by have := hb.dp; omega⟩
        · cases hd
    · have h1 := ha.wt
      have h2 := hb.wt
      simp only [wtAll]; omega
  obtain ⟨s1, s2⟩ := fit_ok hM h.ok
  refine ⟨s1, Nat.le_trans h.dp (by omega), Nat.le_trans s2 (Nat.le_trans h.wt ?_)⟩
  rw [sizeLine_eq]; omega
/-! the data of instances and assignments -/
theorem fit_dI {M : Nat} {ns : List Int} (h : ∀ i ∈ ns, i.natAbs ≤ M) : Fit M 1 (ns.length * 42 + 3) (dI ns) := by
  have hw : wtAll (ns.map PyData.int) = ns.length * 42 := by
    clear h
    induction ns with
    | nil => rfl
    | cons a ns ih => simp only [List.map_cons, wtAll, wt, ih, List.length_cons]; omega
  refine Fit.tup ?_ (by decide) (by rw [hw]; exact Nat.le_refl _)
  intro d hd
  obtain ⟨i, hi, rfl⟩ := List.mem_map.mp hd
  exact ⟨by simpa only [fit] using h i hi, by simp [PyData.depth]⟩
theorem wtAll_le {W : Nat} : ∀ {ds : List PyData}, (∀ d ∈ ds, wt d ≤ W) → wtAll ds ≤ ds.length * (W + 2)
  | [], _ => by simp [wtAll]
  | d :: ds, h => by
    have h1 := h d (by simp)
    have h2 := wtAll_le (W := W) (ds := ds) (fun x hx => h x (by simp [hx]))
    simp only [wtAll, List.length_cons, Nat.succ_mul]; omega
theorem fit_dAsg {M : Nat} {rows : List (List Int)} (h : ∀ row ∈ rows, row.length ≤ 10 ∧ ∀ i ∈ row, i.natAbs ≤ M) (hr : rows.length ≤ 20) : Fit M 2 10000 (dAsg rows) := by
  unfold dAsg
  refine Fit.tup ?_ (by decide) ?_
  · intro d hd
    obtain ⟨row, hrow, rfl⟩ := List.mem_map.mp hd
    have := fit_dI (M := M) (h row hrow).2
    exact ⟨this.ok, by have := this.dp; omega⟩
  · have := wtAll_le (W := 430) (ds := rows.map dI) (by
      intro d hd
      obtain ⟨row, hrow, rfl⟩ := List.mem_map.mp hd
      have := (fit_dI (M := M) (h row hrow).2).wt
      have := (h row hrow).1
      omega)
    rw [List.length_map] at this
    omega
theorem fit_dInst {M : Nat} {cs : List Int} {gs : List Gp} (hc : cs.length ≤ 10 ∧ ∀ i ∈ cs, i.natAbs ≤ M) (hg : gs.length ≤ 20) (h : ∀ g ∈ gs, g.1.length ≤ 10 ∧ (∀ i ∈ g.1, i.natAbs ≤ M) ∧ g.2.natAbs ≤ M) : Fit M 5 20000 (dInst cs gs) := by
  have f1 := fit_dI hc.2
  have f2 : ∀ g ∈ gs, Fit M 2 600 (dGrp g) := by
    intro g hgm
    have f3 := fit_dI (M := M) (h g hgm).2.1
    have hl := (h g hgm).1
    unfold dGrp
    refine Fit.tup ?_ (by decide) ?_
    · intro d hd
      rcases List.mem_cons.mp hd with rfl | hd
      · exact ⟨f3.ok, by have := f3.dp; omega⟩
      · rcases List.mem_cons.mp hd with rfl | hd
        · exact ⟨by simpa only [fit] using (h g hgm).2.2, by simp [PyData.depth]⟩
        · cases hd
    · have := f3.wt
      simp only [wtAll, Pv.wt]; omega
  have f4 : Fit M 3 13000 (.tuple (gs.map dGrp)) := by
    refine Fit.tup ?_ (by decide) ?_
    · intro d hd
      obtain ⟨g, hgm, rfl⟩ := List.mem_map.mp hd
      exact ⟨(f2 g hgm).ok, by have := (f2 g hgm).dp; omega⟩
    · have := wtAll_le (W := 600) (ds := gs.map dGrp) (by
        intro d hd
        obtain ⟨g, hgm, rfl⟩ := List.mem_map.mp hd
        exact (f2 g hgm).wt)
      rw [List.length_map] at this
      omega
  unfold dInst
  refine Fit.tup ?_ (by decide) ?_
  · intro d hd
    rcases List.mem_cons.mp hd with rfl | hd
    · exact ⟨f1.ok, by have := f1.dp; omega⟩
    · rcases List.mem_cons.mp hd with rfl | hd
      · exact ⟨f4.ok, by have := f4.dp; omega⟩
      · cases hd
  · have h1 := f1.wt
    have h2 := f4.wt
    have := hc.1
    simp only [wtAll]; omega
end Pv

namespace Pv
open PySem PySem.Spec PyProof.Rows L2
abbrev sOdd : Stmt := topS 32
theorem scOdd : FnScope ["_law_deck_here", "_law_some"] ["_law_deck_here"] (defScope sOdd) := ⟨rfl, rfl, rfl, by decide +kernel, rfl, by decide +kernel, by decide +kernel⟩
def oddL : List PyData := [.none, .bool true, .bool false, .int (-1), .int 0, .int 1, .int (10 ^ (12 : Int).toNat + 1), .int (10 ^ (29 : Int).toNat), .str "", .str "0", .tuple [], .list [], .dict [], .tuple [.int 0], .list [.int 0], .tuple [.int 0, .int 0], .tuple [.tuple []], .str "a"]
theorem odd_fit : ∀ d ∈ oddL, Fit (10 ^ 29) 2 500 d ∧ nar 2 d := by
  intro d hd
  simp only [oddL, List.mem_cons, List.not_mem_nil, or_false] at hd
  rcases hd with rfl | rfl | rfl | rfl | rfl | rfl | rfl | rfl | rfl | rfl | rfl | rfl | rfl | rfl | rfl | rfl | rfl | rfl
  · exact ⟨⟨by simp [fit], by simp [PyData.depth], by simp [wt]⟩, by simp [nar]⟩
  · exact ⟨⟨by simp [fit], by simp [PyData.depth], by simp [wt]⟩, by simp [nar]⟩
  · exact ⟨⟨by simp [fit], by simp [PyData.depth], by simp [wt]⟩, by simp [nar]⟩
  · exact ⟨⟨by simp [fit], by simp [PyData.depth], by simp [wt]⟩, by simp [nar]⟩
  · exact ⟨⟨by simp [fit], by simp [PyData.depth], by simp [wt]⟩, by simp [nar]⟩
  · exact ⟨⟨by simp [fit], by simp [PyData.depth], by simp [wt]⟩, by simp [nar]⟩
  · exact ⟨⟨by simp only [fit]; decide, by simp [PyData.depth], by simp [wt]⟩, by simp [nar]⟩
  · exact ⟨⟨by simp only [fit]; decide, by simp [PyData.depth], by simp [wt]⟩, by simp [nar]⟩
  · exact ⟨⟨by simp only [fit]; decide +kernel, by simp [PyData.depth], by simp [wt]⟩, by simp [nar]⟩
  · exact ⟨⟨by simp only [fit]; decide +kernel, by simp [PyData.depth], by simp [wt]⟩, by simp [nar]⟩
  · exact ⟨⟨by simp [fit, fitAll], by simp [PyData.depth, PyData.depthAll], by simp [wt, wtAll]⟩, by simp [nar, narAll]⟩
  · exact ⟨⟨by simp [fit, fitAll], by simp [PyData.depth, PyData.depthAll], by simp [wt, wtAll]⟩, by simp [nar, narAll]⟩
  · exact ⟨⟨by simp only [fit]; exact ⟨by decide +kernel, by simp [PyData.showable, PyData.showableKv]⟩, by simp [PyData.depth, PyData.depthKv], by simp [wt]⟩, by simp [nar]⟩
  · exact ⟨⟨by simp [fit, fitAll], by simp [PyData.depth, PyData.depthAll], by simp [wt, wtAll]⟩, by simp [nar, narAll]⟩
  · exact ⟨⟨by simp [fit, fitAll], by simp [PyData.depth, PyData.depthAll], by simp [wt, wtAll]⟩, by simp [nar, narAll]⟩
  · exact ⟨⟨by simp [fit, fitAll], by simp [PyData.depth, PyData.depthAll], by simp [wt, wtAll]⟩, by simp [nar, narAll]⟩
  · exact ⟨⟨by simp [fit, fitAll], by simp [PyData.depth, PyData.depthAll], by simp [wt, wtAll]⟩, by simp [nar, narAll]⟩
  · exact ⟨⟨by simp only [fit]; decide +kernel, by simp [PyData.depth], by simp [wt]⟩, by simp [nar]⟩
theorem odd_short : ∀ d ∈ oddL, ∀ a : List Nat, d = .str ⟨a.toArray⟩ → a.length ≤ 1 := by
  intro d hd a e
  have key : ∀ z : Str, .str z ∈ oddL → z.cps.toList.length ≤ 1 := by
    intro z hz
    simp only [oddL, List.mem_cons, List.not_mem_nil, or_false, reduceCtorEq, false_or, PyData.str.injEq] at hz
    rcases hz with rfl | rfl | rfl <;> decide
  rw [e] at hd
  exact key _ hd
section
variable {P : Program} {w : World} {K : PySem.W.Frag} {mg : Str → Option Value} {base : Heap}
def spOdd (K : PySem.W.Frag) : Sp := fun vs H Q _ => ∃ (st c r : Addr) (t : Nat), vs = [.ref st] ∧ DS H st c r t ∧ t < 1000000 ∧
  ∀ (H' : Hp) (v : V) (d : PyData), DS H' st c r (t + 1) → Ext st r H H' → Dq K st r H' v d → Fit (10 ^ 29) 2 500 d → nar 2 d → (∀ a : List Nat, d = .str ⟨a.toArray⟩ → a.length ≤ 1) → Q v H'
set_option maxHeartbeats 2000000 in
theorem ok_odd {f fD : Addr} {fd fdD : FuncData} {k : Nat} (F : Fun K "_law_odd" "_law_odd" sOdd f fd)
    (FD : Fun K "_law_next" "_law_next" sDraw fD fdD) (bD : Binds K fdD ["_law_deck_here", "_law_many"] []) (gD : mg "_law_next" = some (.ref fD)) (GD : FnOk P w K mg base CX0 1 fD fdD ["_law_deck_here", "_law_many"] spDraw) :
    FnOk P w K mg base CX0 (1 + k + 1) f fd ["_law_deck_here"] (spOdd K) := by
  refine F.ok scOdd (fun vs H Q E h => ?_) (fun cdv A outer s H vs Q E hr h => ?_)
  · obtain ⟨st, c, r, t, rfl, _⟩ := h; rfl
  · obtain ⟨st, c, r, t, rfl, ds, ht, q⟩ := h
    refine ⟨_, pss_cons (ps_set (i := 1) scOdd.nd rfl (.inl rfl) (pe_lst (pa_cons pe_non (pa_cons pe_bl (pa_cons pe_bl (pa_cons (pe_un un_neg pe_int) (pa_cons pe_int (pa_cons pe_int (pa_cons (pe_op op_add (pe_op op_pow pe_int pe_int) pe_int) (pa_cons (pe_op op_pow pe_int pe_int)
        (pa_cons pe_str (pa_cons pe_str (pa_cons (pe_tup pa_nil) (pa_cons (pe_lstS pa_nil) (pa_cons pe_dnewK
        (pa_cons (pe_tup (pa_cons pe_int pa_nil)) (pa_cons (pe_lstS (pa_cons pe_int pa_nil)) (pa_cons (pe_tup (pa_cons pe_int (pa_cons pe_int pa_nil))) (pa_cons (pe_tup (pa_cons (pe_tup pa_nil) pa_nil)) (pa_cons pe_str pa_nil))))))))))))))))))))
      (pss_one (ps_ret (pe_ix ix_list (pv 1) (pe_call GD (hr.mono (by omega)) (by rfl) gD FD.kp bD .nil pass0 (pa_cons (pv 0) (pa_cons pe_int pa_nil))) (fun _ _ => rfl)))), ?_⟩
    refine ⟨1, rfl, _, _, rfl, rfl, ⟨by decide, by decide, by decide⟩, _, _, rfl, rfl, _, _, rfl, rfl, ⟨by decide, by decide, by decide⟩, Nat.zero_le _, fun p1 n1 => ⟨Nat.zero_le _, fun p2 n2 m2 p3 n3 => ?_⟩⟩
    have h1 : Dq K st r (upd H p1 (.tup [])) (.ref p1) (.tuple []) := .tup (SqT.of upd_same) .nil
    have s1 : Same H (upd H p1 (.tup [])) := sameNew n1
    have d1 := ds.same s1
    obtain ⟨o1, _, o2⟩ := d1.off n2
    have h2 : Dq K st r (upd (upd H p1 (.tup [])) p2 (.lst [])) (.ref p2) (.list []) := .lst upd_same o1 o2 m2 .nil
    generalize e2 : upd (upd H p1 (.tup [])) p2 (.lst []) = H2 at *
    have s2 : Same (upd H p1 (.tup [])) H2 := by rw [← e2]; exact sameNew n2
    have h3 : Dq K st r (upd H2 p3 (.dK [])) (.ref p3) (.dict []) := .dct (kvs := []) upd_same
    have s4 : Same H2 (upd H2 p3 (.dK [])) := sameNew n3
    generalize e4 : upd H2 p3 (.dK []) = H4 at *
    refine ⟨by decide, fun p5 n5 => ⟨by decide, fun p6 n6 m6 => ⟨by decide, fun p9 n9 => ⟨Nat.zero_le _, fun p7 n7 => ⟨(show (1 : Nat) ≤ sizeLine by decide), fun p8 n8 => ⟨(show (18 : Nat) ≤ sizeLine by decide), fun L nL => ?_⟩⟩⟩⟩⟩⟩
    have h5 : Dq K st r (upd H4 p5 (.tup [.int 0])) (.ref p5) (.tuple [.int 0]) := .tup (SqT.of upd_same) (.cons (.int 0) .nil)
    have s5 : Same H4 (upd H4 p5 (.tup [.int 0])) := sameNew n5
    have s05 := ((s1.trans s2).trans s4).trans s5
    obtain ⟨o3, _, o4⟩ := (ds.same s05).off n6
    generalize e5 : upd H4 p5 (.tup [.int 0]) = H5 at *
    have h6 : Dq K st r (upd H5 p6 (.lst [.int 0])) (.ref p6) (.list [.int 0]) := .lst upd_same o3 o4 m6 (.cons (.int 0) .nil)
    have s6 : Same H5 (upd H5 p6 (.lst [.int 0])) := sameNew n6
    generalize e6 : upd H5 p6 (.lst [.int 0]) = H6 at *
    have s7 : Same H6 (upd H6 p9 (.tup [.int 0, .int 0])) := sameNew n9
    have h9 : Dq K st r (upd H6 p9 (.tup [.int 0, .int 0])) (.ref p9) (.tuple [.int 0, .int 0]) := .tup (SqT.of upd_same) (.cons (.int 0) (.cons (.int 0) .nil))
    generalize e7 : upd H6 p9 (.tup [.int 0, .int 0]) = H7 at *
    have h7 : Dq K st r (upd H7 p7 (.tup [])) (.ref p7) (.tuple []) := .tup (SqT.of upd_same) .nil
    have s8 : Same H7 (upd H7 p7 (.tup [])) := sameNew n7
    generalize e8 : upd H7 p7 (.tup []) = H8 at *
    have s9 : Same H8 (upd H8 p8 (.tup [.ref p7])) := sameNew n8
    have h8 : Dq K st r (upd H8 p8 (.tup [.ref p7])) (.ref p8) (.tuple [.tuple []]) := .tup (SqT.of upd_same) (.cons (h7.lasts (.of s9)) .nil)
    generalize e9 : upd H8 p8 (.tup [.ref p7]) = H9 at *
    have s79 := s8.trans s9
    have s69 := s7.trans s79
    have s59 := s6.trans s69
    have s49 := s5.trans s59
    have s29 := s4.trans s49
    have s19 := s2.trans s29
    have s09 := s1.trans s19
    have hall : DqAll K st r H9 [.non, .bl true, .bl false, .int (-1), .int 0, .int 1, .int (10 ^ (12 : Int).toNat + 1), .int (10 ^ (29 : Int).toNat), .str "", .str "0", .ref p1, .ref p2, .ref p3, .ref p5, .ref p6, .ref p9, .ref p8, .str "a"] oddL :=
      .cons .non (.cons (.bl _) (.cons (.bl _) (.cons (.int _) (.cons (.int _) (.cons (.int _) (.cons (.int _) (.cons (.int _) (.cons (.str _) (.cons (.str _) (.cons (h1.lasts (.of s19)) (.cons (h2.lasts (.of s29)) (.cons (h3.lasts (.of s49))
        (.cons (h5.lasts (.of s59)) (.cons (h6.lasts (.of s69)) (.cons (h9.lasts (.of s79)) (.cons h8 (.cons (.str _) .nil)))))))))))))))))
    have sL := sameNew (o := .lst [.non, .bl true, .bl false, .int (-1), .int 0, .int 1, .int (10 ^ (12 : Int).toNat + 1), .int (10 ^ (29 : Int).toNat), .str "", .str "0", .ref p1, .ref p2, .ref p3, .ref p5, .ref p6, .ref p9, .ref p8, .str "a"]) nL
    have dL := ds.same (s09.trans sL)
    obtain ⟨oL1, _, oL2⟩ := (ds.same s09).off nL
    refine ⟨.ref L, rfl, .ref st, rfl, st, c, r, t, 18, rfl, dL, ht, by decide, by decide, fun H' d h0 h18 D' X' => ?_⟩
    obtain ⟨n, rfl⟩ : ∃ n : Nat, d = n := ⟨d.toNat, by omega⟩
    have hL := X' _ _ upd_same oL1 oL2
    have hallL := (hall.lasts (.of sL)).lasts (Lasts.ext dL X')
    generalize ev : ([.non, .bl true, .bl false, .int (-1), .int 0, .int 1, .int (10 ^ (12 : Int).toNat + 1), .int (10 ^ (29 : Int).toNat), .str "", .str "0", .ref p1, .ref p2, .ref p3, .ref p5, .ref p6, .ref p9, .ref p8, .str "a"] : List V) = vals at *
    have hvl : vals.length = 18 := by rw [← ev]; rfl
    have hn : n < vals.length := by omega
    obtain ⟨dd, hdd, hdq⟩ := DqAll.at hallL (List.getElem?_eq_getElem hn)
    have hof := odd_fit dd (List.mem_of_getElem? hdd)
    refine ⟨L, _, _, _, rfl, rfl, SqL.of ?_, atI_nat (List.getElem?_eq_getElem hn), q _ _ _ D' ((Ext.of (s09.trans sL)).trans X') hdq hof.1 hof.2 (odd_short dd (List.mem_of_getElem? hdd))⟩
    exact hL
end
end Pv

namespace Pv
open PySem PySem.Spec PyProof.Rows L2
/-! a comprehension whose elements only make new objects -/
def LcP {α : Type} (H1 : Hp) (D : Addr) (zs : List α) (F : α → Option V) (i : Nat) (H : Hp) : Prop := Same H1 H ∧ H D = some (.lst ((zs.take i).filterMap F))
section
variable {α : Type} {H1 H H' : Hp} {D : Addr} {zs : List α} {F : α → Option V} {i : Nat} {x : α} {y : V}
theorem LcP.start (nD : H1 D = none) : LcP H1 D zs F 0 (upd H1 D (.lst [])) := ⟨sameNew nD, by rw [upd_same]; rfl⟩
theorem LcP.yes (h : LcP H1 D zs F i H) (nD : H1 D = none) (s : Same H H') (hx : zs[i]? = some x) (hF : F x = some y) (hi : i ≤ 1000000) : ∃ acc, H' D = some (.lst acc) ∧ acc.length < sizeLine ∧ LcP H1 D zs F (i + 1) (upd H' D (.lst (acc ++ [y]))) := by
  refine ⟨_, s _ _ h.2, ?_, samePut (h.1.trans s) nD, ?_⟩
  · have h1 := List.length_filterMap_le F (zs.take i)
    have h2 := List.length_take_le i zs
    exact small (by omega)
  · rw [upd_same, take_snoc hx, List.filterMap_append]
    simp [hF]
theorem LcP.no (h : LcP H1 D zs F i H) (s : Same H H') (hx : zs[i]? = some x) (hF : F x = none) : LcP H1 D zs F (i + 1) H' := by
  refine ⟨h.1.trans s, ?_⟩
  rw [s _ _ h.2, take_snoc hx, List.filterMap_append]
  simp [hF]
theorem LcP.done (h : LcP H1 D zs F i H) (hi : zs.length ≤ i) : H D = some (.lst (zs.filterMap F)) := by have := h.2; rwa [List.take_of_length_le hi] at this
end
theorem fm_map {α : Type} (f : α → V) (zs : List α) : zs.filterMap (fun x => some (f x)) = zs.map f := by
  induction zs with
  | nil => rfl
  | cons z zs ih => simp
theorem fm_filter {α : Type} (p : α → Bool) (f : α → V) (zs : List α) : zs.filterMap (fun x => if p x = true then some (f x) else none) = (zs.filter p).map f := by
  induction zs with
  | nil => rfl
  | cons z zs ih => by_cases h : p z = true <;> simp [h, ih]
def Rl {β : Type} (R : V → β → Prop) (vs : List V) (rs : List β) : Prop := vs.length = rs.length ∧ ∀ (j : Nat) (v : V) (r : β), vs[j]? = some v → rs[j]? = some r → R v r
section
variable {β : Type} {R R' : V → β → Prop} {vs : List V} {rs : List β}
theorem Rl.nil : Rl R [] [] := ⟨rfl, fun j v r h => by simp at h⟩
theorem Rl.mono (h : Rl R vs rs) (f : ∀ v r, R v r → R' v r) : Rl R' vs rs := ⟨h.1, fun j v r h1 h2 => f _ _ (h.2 j v r h1 h2)⟩
theorem Rl.snoc {v : V} {r : β} (h : Rl R vs rs) (hv : R v r) : Rl R (vs ++ [v]) (rs ++ [r]) := by
  refine ⟨by simp [h.1], fun j v' r' h1 h2 => ?_⟩
  by_cases hj : j < vs.length
  · rw [List.getElem?_append_left hj] at h1
    rw [List.getElem?_append_left (by rw [← h.1]; exact hj)] at h2
    exact h.2 j v' r' h1 h2
  · rw [List.getElem?_append_right (by omega)] at h1
    rw [List.getElem?_append_right (by rw [← h.1]; omega)] at h2
    have e : j - vs.length = 0 := by have := (List.getElem?_eq_some_iff.mp h1).1; simp at this; omega
    rw [e] at h1
    rw [← h.1, e] at h2
    simp at h1 h2
    rw [← h1, ← h2]; exact hv
theorem Rl.at {j : Nat} {v : V} (h : Rl R vs rs) (hv : vs[j]? = some v) : ∃ r, rs[j]? = some r ∧ R v r := by
  have hj : j < rs.length := by rw [← h.1]; exact (List.getElem?_eq_some_iff.mp hv).1
  exact ⟨rs[j], List.getElem?_eq_getElem hj, h.2 j v _ hv (List.getElem?_eq_getElem hj)⟩
end
theorem sqS {K : PySem.W.Frag} {H H' : Hp} {a : Addr} {xs : List V} (s : Same H H') (h : SqT K H a xs) : SqT K H' a xs := (TupK.of s).sq h
theorem atS {xs : List Int} {j : Nat} (h : j < xs.length) : (xs.map V.int)[j]? = some (.int xs[j]) := by rw [List.getElem?_map, List.getElem?_eq_getElem h]; rfl
section
variable {X : Cx}
def rEqNilT (K : PySem.W.Frag) : R2 := fun x y H Q => ∃ (a b : Addr) (xs : List V), x = .ref a ∧ y = .ref b ∧ SqT K H a xs ∧ SqT K H b [] ∧ Q (.bl xs.isEmpty) H
theorem op_eqNilT (hu : X.A.units < cLine) : OpR X (compareOp .Eq) (rEqNilT X.K) := by
  intro pins s σ H x y v u Q I rx ry h
  obtain ⟨a, b, xs, rfl, rfl, ha, hb, q⟩ := h
  cases rx
  cases ry
  obtain ⟨its, r1, p1, z1⟩ := I.tuple ha
  obtain ⟨its2, r2, p2, z2⟩ := I.tuple hb
  cases r2
  have hl := r1.length
  have key := SeqAt.RcAt.tuples (A := X.A) (e := fun _ => true) (show s.heap.IsTuple a its.toArray from p1) (show s.heap.IsTuple b ([] : List Value).toArray from p2) hu (fun j _ h2 => absurd h2 (Nat.not_lt_zero _)) X.prog X.w
  have e : ((List.range (min its.toArray.size ([] : List Value).toArray.size)).all (fun _ => true) && its.toArray.size == ([] : List Value).toArray.size) = xs.isEmpty := by
    rw [List.size_toArray, ← hl]
    cases xs <;> simp
  rw [e] at key
  exact key _ _ ⟨.bl _, H, I, rfl, q⟩
end
end Pv

namespace Pv
open PySem PySem.Spec PyProof.Rows L2 SX
/-! texts: the rules under short names, and the text of a whole number -/
def rJnS (K : PySem.W.Frag) : V → List V → Hp → VK → Prop := fun x xs H Q => ∃ a p, ∃ ys : List Str, x = .str a ∧ xs = [.ref p] ∧ (SqL K H p (ys.map V.str) ∨ SqT K H p (ys.map V.str)) ∧ (ys.map (·.length)).sum + ys.length * a.length ≤ 16777216 ∧ Q (.str (Txt.join a ys)) H
def rSpS : V → List V → Hp → VK → Prop := fun x xs H Q => ∃ a b, x = .str a ∧ xs = [.str b] ∧ (b.length == 0) = false ∧ a.length + 2 ≤ sizeLine ∧ rNewStrs (Txt.split a b) H Q
def rTxt0 (g : Str → Bool) : V → List V → Hp → VK → Prop := fun x xs H Q => ∃ a, x = .str a ∧ xs = [] ∧ True ∧ Q (.bl (g a)) H
def rTxt1 (g : Str → Str → Bool) : V → List V → Hp → VK → Prop := fun x xs H Q => ∃ a b, x = .str a ∧ xs = [.str b] ∧ Q (.bl (g a b)) H
def rStrI : RC := fun xs H Q => ∃ i, xs = [.int i] ∧ i.natAbs.log2 < 1920 ∧ Q (.str (toString i)) H
def rIntS : RC := fun xs H Q => ∃ a n, xs = [.str a] ∧ PySem.intText? a = some n ∧ a.length ≤ 640 ∧ Q (.int n) H
def rLenS : RC := fun xs H Q => ∃ z, xs = [.str z] ∧ z.length ≤ sizeLine ∧ Q (.int z.length) H
section
variable {X : Cx}
theorem mt_joinQ : MtR X "str.join" (rJnS X.K) := mt_join
theorem mt_splitQ : MtR X "str.split" rSpS := mt_split
theorem mt_isasciiQ : MtR X "str.isascii" (rTxt0 Txt.isascii) := mt_isascii
theorem mt_isdigitQ : MtR X "str.isdigit" (rTxt0 Txt.isdigit) := mt_isdigit
theorem mt_startswithQ : MtR X "str.startswith" (rTxt1 Txt.startswith) := mt_startswith
theorem mt_endswithQ : MtR X "str.endswith" (rTxt1 Txt.endswith) := mt_endswith
theorem call_strQ : CallR X (.type "str") rStrI := call_str_int
theorem call_intQ : CallR X (.type "int") rIntS := call_int_str
theorem call_lenS : CallR X (.builtin "len") rLenS := call_len_str
end
/-- the signs of a number's text -/
def numT (i : Int) : List Nat := TL.numL i.toNat
theorem num_T {i : Int} (h : 0 ≤ i) : (Str.ofString (toString i)) = S (numT i) := by
  obtain ⟨n, rfl⟩ : ∃ n : Nat, i = n := ⟨i.toNat, by omega⟩
  unfold numT
  rw [Int.toNat_natCast]
  exact num_S n
theorem numT_len {i : Int} (h : i < 10 ^ 29) : (numT i).length ≤ 29 := TL.numL_len (by decide) (by
  have : (10 : Int) ^ 29 = ((10 ^ 29 : Nat) : Int) := by decide
  omega)
theorem numT_ne (i : Int) : numT i ≠ [] := TL.numL_ne _
theorem numT_free {i : Int} {s : Nat} (h : s < 48 ∨ 57 < s) : s ∉ numT i := TL.numL_free h
theorem int_log {i : Int} (h0 : 0 ≤ i) (h : i < 10 ^ 29) : i.natAbs.log2 < 1920 := by
  by_cases z : i.natAbs = 0
  · rw [z]; decide
  · exact (Nat.log2_lt z).mpr (Nat.lt_of_lt_of_le (show i.natAbs < 10 ^ 29 by omega) (by
      have : (10 : Nat) ^ 29 ≤ 2 ^ 100 := by decide
      exact Nat.le_trans this (Nat.pow_le_pow_right (by decide) (by decide))))
end Pv

namespace Pv
open PySem PySem.Spec PyProof.Rows L2 SX

def rowT (ns : List Int) : List Nat := TL.joinL [44] (ns.map numT)
theorem nums_S (ns : List Int) : ns.map (fun n => V.str (S (numT n))) = ((ns.map numT).map S).map V.str := by rw [List.map_map, List.map_map]; rfl
theorem txts_S {α : Type} (f : α → List Nat) (l : List α) : l.map (fun n => V.str (S (f n))) = ((l.map f).map S).map V.str := by rw [List.map_map, List.map_map]; rfl
theorem sum_len {B : Nat} : ∀ l : List (List Nat), (∀ t ∈ l, t.length ≤ B) → (l.map (·.length)).sum ≤ l.length * B
  | [], _ => by simp
  | t :: l, h => by
    have h1 := h t (List.mem_cons_self ..)
    have h2 := sum_len l fun u hu => h u (List.mem_cons_of_mem _ hu)
    rw [List.map_cons, List.sum_cons, List.length_cons, Nat.succ_mul]
    omega
theorem join_fits {B : Nat} {l : List (List Nat)} {a : List Nat} (hl : l.length ≤ 40) (h : ∀ t ∈ l, t.length ≤ B) (hB : B ≤ 10000) (ha : a.length ≤ 10) : ((l.map S).map (·.length)).sum + (l.map S).length * (S a).length ≤ 16777216 := by
  rw [lens, List.length_map, S_len]
  have h1 := sum_len l h
  have h2 := Nat.mul_le_mul hl hB
  have h3 := Nat.mul_le_mul hl ha
  omega
theorem joinL_len {B : Nat} {a : List Nat} : ∀ l : List (List Nat), (∀ t ∈ l, t.length ≤ B) → (TL.joinL a l).length ≤ l.length * (B + a.length)
  | [], _ => by simp [TL.joinL]
  | [t], h => by have := h t (List.mem_cons_self ..); simp [TL.joinL]; omega
  | t :: u :: l, h => by
    have h1 := h t (List.mem_cons_self ..)
    have h2 := joinL_len (a := a) (u :: l) fun v hv => h v (List.mem_cons_of_mem _ hv)
    rw [List.length_cons, Nat.succ_mul]
    simp only [TL.joinL, List.length_append] at h2 ⊢
    omega
theorem rowT_len {ns : List Int} (hl : ns.length ≤ 20) (hb : ∀ n ∈ ns, 0 ≤ n ∧ n < 10 ^ 29) : (rowT ns).length ≤ 620 := by
  have h := joinL_len (B := 29) (a := [44]) (ns.map numT) (fun t ht => by
    obtain ⟨n, hn, rfl⟩ := List.mem_map.mp ht
    exact numT_len (hb n hn).2)
  rw [List.length_map] at h
  have h2 := Nat.mul_le_mul_right (29 + [44].length) hl
  have h3 : 20 * (29 + [44].length) = 600 := rfl
  unfold rowT
  omega
theorem dI_adr {K : PySem.W.Frag} {H : Hp} {v : V} {ns : List Int} (h : Dp K H v (dI ns)) : ∃ a, v = .ref a ∧ SqT K H a (ns.map V.int) := by
  unfold dI at h
  cases h with
  | tup h1 h2 => exact ⟨_, rfl, DpAll.ints h2 ▸ h1⟩
section
variable {P : Program} {w : World} {K : PySem.W.Frag} {mg : Str → Option Value} {base : Heap}
def spJn (K : PySem.W.Frag) : Sp := fun vs H Q _ => ∃ (a : Addr) (ns : List Int), vs = [.ref a] ∧ SqT K H a (ns.map V.int) ∧ ns.length ≤ 20 ∧ (∀ n ∈ ns, 0 ≤ n ∧ n < 10 ^ 29) ∧ ∀ H', Same H H' → Q (.str (S (rowT ns))) H'
def spAt (K : PySem.W.Frag) : Sp := fun vs H Q _ => ∃ (v : V) (rows : List (List Int)), vs = [v] ∧ Dp K H v (dAsg rows) ∧ rows.length ≤ 20 ∧ (∀ r ∈ rows, r.length ≤ 20 ∧ ∀ n ∈ r, 0 ≤ n ∧ n < 10 ^ 29) ∧ ∀ H', Same H H' → Q (.str (S (TL.joinL [32] (rows.map rowT)))) H'
end
end Pv

namespace Pv
open PySem PySem.Spec PyProof.Rows L2
/-! repr of any such value -/
theorem call_reprA {X : Cx} (hg : X.A.guards = some []) (hu : X.A.units + 70 < cLine) : CallR X (.builtin "repr")
    (fun xs H Q => ∃ v d st r, xs = [v] ∧ Dq X.K st r H v d ∧ d.showable = true ∧ d.depth ≤ 60 ∧ d.shown.length ≤ sizeLine ∧ Q (.str d.shown) H) := by
  intro pins s σ H xs us Q I rv h
  obtain ⟨v, d, st, r, rfl, hd, h1, h3, h4, q⟩ := h
  by_cases hv : ∃ a, v = .ref a
  · obtain ⟨a, rfl⟩ := hv
    exact call_reprQ hg hu pins s σ H _ us Q I rv ⟨a, d, st, r, rfl, hd, h1, h3, h4, q⟩
  · obtain ⟨u, rfl, ru⟩ := vals1 rv
    cases hd with
    | non => cases ru; exact PySem.P.repr_of_none ⟨.str _, H, I.tok _, ⟨_, rfl⟩, q⟩
    | bl b => cases ru; cases b <;> exact PySem.P.repr_of_bool ⟨.str _, H, I.tok _, ⟨_, rfl⟩, q⟩
    | int i =>
      obtain ⟨t, rfl⟩ := ru
      exact PySem.P.repr_of_int (by simpa [PyData.showable] using h1) ⟨.str _, H, I.tok _, ⟨_, rfl⟩, q⟩
    | str x =>
      obtain ⟨t, rfl⟩ := ru
      exact PySem.P.repr_of_str ⟨.str _, H, I.tok _, ⟨_, rfl⟩, q⟩ h4
    | lst _ => exact absurd ⟨_, rfl⟩ hv
    | tup _ => exact absurd ⟨_, rfl⟩ hv
    | dct _ => exact absurd ⟨_, rfl⟩ hv
/-! written values -/
def tLit (K : PySem.W.Frag) (d : PyData) : TE := fun _ H Q => ∃ st r, (H st ≠ none ∧ H r ≠ none) ∧ ∀ H' v, Same H H' → Dq K st r H' v d → Q v H'
def tLits (K : PySem.W.Frag) (ds : List PyData) : TA := fun _ H Q => ∃ st r, (H st ≠ none ∧ H r ≠ none) ∧ ∀ H' vs, Same H H' → DqAll K st r H' vs ds → Q vs H'
theorem occ {H H' : Hp} {st r : Addr} (h : H st ≠ none ∧ H r ≠ none) (s : Same H H') : H' st ≠ none ∧ H' r ≠ none := by
  obtain ⟨h1, h2⟩ := h
  constructor
  · cases e : H st with
    | none => exact absurd e h1
    | some o => rw [s _ _ e]; simp
  · cases e : H r with
    | none => exact absurd e h2
    | some o => rw [s _ _ e]; simp
theorem occ_ne {H : Hp} {st r p : Addr} (h : H st ≠ none ∧ H r ≠ none) (np : H p = none) : p ≠ st ∧ p ≠ r := ⟨fun e => h.1 (e ▸ np), fun e => h.2 (e ▸ np)⟩
theorem DqAll.rep {K : PySem.W.Frag} {st r : Addr} {H : Hp} {vs : List V} {ds : List PyData} (h : DqAll K st r H vs ds) : ∀ k : Nat, DqAll K st r H (List.replicate k vs).flatten (List.replicate k ds).flatten
  | 0 => .nil
  | k + 1 => by
    rw [List.replicate_succ, List.replicate_succ, List.flatten_cons, List.flatten_cons]
    exact h.app (DqAll.rep h k)
section
variable {X : Cx} {e : Expr} {es : List Expr} {pos p1 p2 : Pos} {d : PyData} {ds : List PyData}
theorem pe_mono {t t' : TE} (h : PE X e t) (m : ∀ σ H Q, t' σ H Q → t σ H Q) : PE X e t' := ⟨fun pins s σ H Q I q => h.run pins s σ H Q I (m _ _ _ q)⟩
theorem pa_mono {t t' : TA} (h : PA X es t) (m : ∀ σ H Q, t' σ H Q → t σ H Q) : PA X es t' := ⟨fun pos pins s σ H Q I q => h.run pos pins s σ H Q I (m _ _ _ q)⟩
theorem lit_c {v : V} (h : PE X e (tC v)) (hd : ∀ st r H, Dq X.K st r H v d) : PE X e (tLit X.K d) := pe_mono h fun σ H Q ⟨st, r, _, q⟩ => q H v (Same.refl H) (hd st r H)
theorem lit_int {n : Int} (h : PE X e (tC (.int n))) : PE X e (tLit X.K (.int n)) := lit_c h fun _ _ _ => .int n
theorem lit_bl {b : Bool} (h : PE X e (tC (.bl b))) : PE X e (tLit X.K (.bool b)) := lit_c h fun _ _ _ => .bl b
theorem lit_str {x : Str} (h : PE X e (tC (.str x))) : PE X e (tLit X.K (.str x)) := lit_c h fun _ _ _ => .str x
theorem lit_non (h : PE X e (tC .non)) : PE X e (tLit X.K .none) := lit_c h fun _ _ _ => .non
theorem lit_pow {a b : Int} (h : PE X e (tOp (rI CPow fun i j => .int (i ^ j.toNat)) (tC (.int a)) (tC (.int b)))) (hc : CPow a b) : PE X e (tLit X.K (.int (a ^ b.toNat))) :=
  pe_mono h fun σ H Q ⟨st, r, _, q⟩ => ⟨a, b, rfl, rfl, hc, q H _ (Same.refl H) (.int _)⟩
theorem lit_add {e1 e2 : Expr} {a b : Int} (h1 : PE X e1 (tLit X.K (.int a))) (h2 : PE X e2 (tLit X.K (.int b))) : PE X (.BinOp e1 .Add e2 pos) (tLit X.K (.int (a + b))) :=
  pe_mono (pe_op op_add h1 h2) fun σ H Q ⟨st, r, oc, q⟩ => ⟨st, r, oc, fun H1 v1 s1 d1 => ⟨st, r, occ oc s1, fun H2 v2 s2 d2 => by
    cases d1; cases d2
    exact ⟨a, b, rfl, rfl, q H2 _ (s1.trans s2) (.int _)⟩⟩⟩
theorem lits_nil : PA X [] (tLits X.K []) := pa_mono pa_nil fun σ H Q ⟨st, r, _, q⟩ => q H [] (Same.refl H) .nil
theorem lits_cons (h : PE X e (tLit X.K d)) (hs : PA X es (tLits X.K ds)) (hq : starEach (e :: es) X.env = (false, eval e X.env) :: starEach es X.env := by rfl) : PA X (e :: es) (tLits X.K (d :: ds)) :=
  pa_mono (pa_cons h hs hq) fun σ H Q ⟨st, r, oc, q⟩ => ⟨st, r, oc, fun H1 v s1 d1 => ⟨st, r, occ oc s1, fun H2 vs s2 d2 => q H2 _ (s1.trans s2) (.cons (d1.lasts (.of s2)) d2)⟩⟩
theorem small6 {n : Nat} (h : n ≤ 1000000) : n ≤ sizeLine := Nat.le_of_lt (Nat.lt_of_le_of_lt h (by decide))
theorem lit_tup {k : Nat} (h : PA X es (tLits X.K ds)) (hl : ds.length ≤ 1000000) : PE X (.Tuple es k pos) (tLit X.K (.tuple ds)) :=
  pe_mono (pe_tup h) fun σ H Q ⟨st, r, oc, q⟩ => ⟨st, r, oc, fun H1 vs s1 d1 => ⟨by rw [DqAll.len d1]; exact small6 hl, fun p np => q _ _ (s1.trans (sameNew np)) (.tup (SqT.of upd_same) (d1.lasts (.of (sameNew np))))⟩⟩
theorem lit_lst (h : PA X es (tLits X.K ds)) (hl : ds.length ≤ 1000000) : PE X (.List es pos) (tLit X.K (.list ds)) :=
  pe_mono (pe_lstS h) fun σ H Q ⟨st, r, oc, q⟩ => ⟨st, r, oc, fun H1 vs s1 d1 => ⟨by rw [DqAll.len d1]; exact small6 hl, fun p np ns => q _ _ (s1.trans (sameNew np)) (.lst upd_same (occ_ne (occ oc s1) np).1 (occ_ne (occ oc s1) np).2 ns (d1.lasts (.of (sameNew np))))⟩⟩
theorem lit_dict : PE X (.Dict [] [] pos) (tLit X.K (.dict [])) :=
  pe_mono pe_dnewK fun σ H Q ⟨st, r, oc, q⟩ => fun p np => q _ _ (sameNew np) (.dct (kvs := []) upd_same)
theorem lit_rep {e2 : Expr} {n : Int} (k : Nat) (h : PE X e (tLit X.K (.tuple ds))) (h2 : PE X e2 (tC (.int n))) (hk : n = (k : Nat)) (h1 : k ≠ 1) (hne : ds ≠ []) (hk2 : k ≤ 1000) (hl : ds.length ≤ 1000) :
    PE X (.BinOp e .Mult e2 pos) (tLit X.K (.tuple (List.replicate k ds).flatten)) :=
  pe_mono (pe_op op_repA h h2) fun σ H Q ⟨st, r, oc, q⟩ => ⟨st, r, oc, fun H1 v s1 d1 => by
    cases d1 with
    | @tup a xs _ hT ha =>
      have hx := DqAll.len ha
      refine ⟨a, k, xs, rfl, by rw [hk], hT, ?_, hk2, by omega, fun z => absurd z h1, fun _ p np => q _ _ (s1.trans (sameNew np)) (.tup (SqT.of upd_same) ((ha.rep k).lasts (.of (sameNew np))))⟩
      intro z
      subst z
      exact hne (List.eq_nil_of_length_eq_zero (by simpa using hx.symm))⟩
end
/-- a list and a written list behind it -/
theorem cat_lits {K : PySem.W.Frag} {st r L : Addr} {σ : L2.St} {H1 : Hp} {ds es : List PyData} {Q : VK} {vs : List V} (e1 : H1 L = some (.lst vs)) (h1 : DqAll K st r H1 vs ds) (hoc : H1 st ≠ none ∧ H1 r ≠ none) (hlen : ds.length + es.length ≤ 1000000)
    (hq : ∀ H' L' vs', Same H1 H' → H' L' = some (.lst vs') → L' ≠ st → L' ≠ r → DqAll K st r H' vs' (ds ++ es) → Q (.ref L') H') : tLst (tLits K es) σ H1 (fun y H2 => rCat (.ref L) y H2 Q) := by
  refine ⟨st, r, hoc, fun H2 v2 s2 h2 => ⟨by rw [DqAll.len h2]; exact small6 (by omega), fun M nM => ?_⟩⟩
  refine ⟨L, M, vs, v2, rfl, rfl, upNew nM (s2 _ _ e1), upd_same, by rw [DqAll.len h1, DqAll.len h2]; exact small6 (by omega), fun N nN => ?_⟩
  have sM := sameNew (o := .lst v2) nM
  have sN := sameNew (o := .lst (vs ++ v2)) nN
  have s1N := (s2.trans sM).trans sN
  have hN := occ_ne (occ (occ hoc s2) sM) nN
  exact hq _ N _ s1N upd_same hN.1 hN.2 ((h1.lasts (.of s1N)).app (h2.lasts (.of (sM.trans sN))))
/-! how large, by looking -/
mutual
def fitB (M L : Nat) : PyData → Bool
  | .none => true
  | .bool _ => true
  | .int i => decide (i.natAbs ≤ M)
  | .str x => decide ((reprText x).length ≤ L)
  | .list xs => fitAllB M L xs
  | .tuple xs => fitAllB M L xs
  | .dict kvs => decide ((PyData.shown (.dict kvs)).length ≤ 40) && PyData.showable (.dict kvs)
def fitAllB (M L : Nat) : List PyData → Bool
  | [] => true
  | x :: xs => fitB M L x && fitAllB M L xs
end
end Pv

namespace Pv
open PySem PySem.Spec PyProof.Rows L2 SX

abbrev sLt : Stmt := topS 35
theorem scLt : FnScope ["_law_instance_here", "_law_lines", "_law_wish", "_law_count", "_law_size", "_law_post"] ["_law_instance_here"] (defScope sLt) := ⟨rfl, rfl, rfl, by decide +kernel, rfl, by decide +kernel, by decide +kernel⟩
def lineP (cs : List Int) : List Nat := TL.joinL [32] ([112, 111, 115, 116, 115] :: cs.map numT)
def lineG (g : Gp) : List Nat := TL.joinL [32] ((numT g.2 ++ [58]) :: g.1.map numT)
theorem freeZ {H H' : Hp} {a : Addr} (s : Same H H') (n : H' a = none) : H a = none := by
  cases e : H a with
  | none => rfl
  | some o => have := s _ _ e; rw [n] at this; cases this
theorem lineP_len {cs : List Int} {gs : List Gp} (ok : InsOk cs gs) : (lineP cs).length ≤ 400 := by
  have h6 := ok.c6
  have h := joinL_len (B := 30) (a := [32]) ([112, 111, 115, 116, 115] :: cs.map numT) (fun t ht => by
    rcases List.mem_cons.mp ht with rfl | ht
    · decide
    · obtain ⟨n, hn, rfl⟩ := List.mem_map.mp ht
      exact Nat.le_trans (numT_len (by have := ok.cb n hn; omega)) (by decide))
  rw [List.length_cons, List.length_map] at h
  have h2 := Nat.mul_le_mul_right (30 + [32].length) (show cs.length + 1 ≤ 7 by omega)
  have h3 : 7 * (30 + [32].length) = 217 := rfl
  unfold lineP
  omega
theorem lineG_len {cs : List Int} {gs : List Gp} (ok : InsOk cs gs) {g : Gp} (hg : g ∈ gs) : (lineG g).length ≤ 400 := by
  have gk := ok.gp g hg
  have hl2 := numT_len (show g.2 < 10 ^ 29 by have := gk.2.2; omega)
  have h := joinL_len (B := 30) (a := [32]) ((numT g.2 ++ [58]) :: g.1.map numT) (fun t ht => by
    rcases List.mem_cons.mp ht with rfl | ht
    · rw [List.length_append]; simp; omega
    · obtain ⟨n, hn, rfl⟩ := List.mem_map.mp ht
      exact Nat.le_trans (numT_len (by have := gk.2.1 n hn; have := ok.c6; omega)) (by decide))
  rw [List.length_cons, List.length_map] at h
  have h2 := Nat.mul_le_mul_right (30 + [32].length) (show g.1.length + 1 ≤ 7 by have := gk.1; omega)
  have h3 : 7 * (30 + [32].length) = 217 := rfl
  unfold lineG
  omega
section
variable {P : Program} {w : World} {K : PySem.W.Frag} {mg : Str → Option Value} {base : Heap}
def spIt (K : PySem.W.Frag) : Sp := fun vs H Q _ => ∃ (i : Addr) (cs : List Int) (gs : List Gp), vs = [.ref i] ∧ Dp K H (.ref i) (dInst cs gs) ∧ InsOk cs gs ∧ ∀ H', Same H H' → Q (.str (S (TL.joinL [10] (lineP cs :: gs.map lineG)))) H'
def spLt (K : PySem.W.Frag) : Sp := spIt K
set_option maxHeartbeats 4000000 in
theorem ok_Lt {f : Addr} {fd : FuncData} (F : Fun K "_law_text" "_law_text" sLt f fd)
    (m_str : mg "str" = none) :
    FnOk P w K mg base CX0 1 f fd ["_law_instance_here"] (spLt K) := by
  refine F.ok scLt (fun vs H Q E h => ?_) (fun cdv A outer s H vs Q E hr h => ?_)
  · obtain ⟨i, cs, gs, rfl, _⟩ := h; rfl
  · obtain ⟨i, cs, gs, rfl, hI, ok, q⟩ := h
    refine ⟨_, pss_cons (ps_set (i := 1) scLt.nd rfl (.inl rfl) (pe_lst (pa_cons (pe_m1 PySem.F.slot_str_join PySem.F.type_str_join mt_joinQ (pe_str) (pe_op op_cat (pe_lst (pa_cons (pe_str) pa_nil)) (pe_lc (own := [("_law_size", 4)]) (g := gName 4) (tt := tYes) (te := tCB rStrI (tCons (tVar 4) tNil)) rfl scLt.nd (pi_tup (pe_ix ix_tup (pv 0) (pe_int) (fun _ _ => rfl))) (blkOk_by (N := ["_law_instance_here", "_law_lines", "_law_wish", "_law_count", "_law_size", "_law_post"]) (sc := defScope sLt) (by decide +kernel)) (fun _ _ _ _ _ => pg_name (i := 4) scLt.nd rfl (.inl rfl)) (fun _ _ _ _ _ => pts_nil) (fun _ _ _ _ _ => pe_callTy call_strQ (by rfl) m_str (by decide +kernel) (pa_cons (pv 4) pa_nil))))) pa_nil)))
      (pss_cons (ps_for PassesOwn.never rfl (pi_tup (pe_ix ix_tup (pv 0) (pe_int) (fun _ _ => rfl))) (pg_tup rfl (pgs_cons (pg_name (i := 2) scLt.nd rfl (.inl rfl)) (pgs_cons (pg_name (i := 3) scLt.nd rfl (.inl rfl)) pgs_nil)))
        (pss_one (ps_expr (pe_bm PySem.F.plainAttrs_list PySem.F.slot_list_append PySem.F.type_list_append mt_append (pv 1) (pa_cons (pe_m1 PySem.F.slot_str_join PySem.F.type_str_join mt_joinQ (pe_str) (pe_op op_cat (pe_lst (pa_cons (pe_op op_add_str (pe_callTy call_strQ (by rfl) m_str (by decide +kernel) (pa_cons (pv 3) pa_nil)) (pe_str)) pa_nil)) (pe_lc (own := [("_law_post", 5)]) (g := gName 5) (tt := tYes) (te := tCB rStrI (tCons (tVar 5) tNil)) rfl scLt.nd (pi_tup (pv 2)) (blkOk_by (N := ["_law_instance_here", "_law_lines", "_law_wish", "_law_count", "_law_size", "_law_post"]) (sc := defScope sLt) (by decide +kernel)) (fun _ _ _ _ _ => pg_name (i := 5) scLt.nd rfl (.inl rfl)) (fun _ _ _ _ _ => pts_nil) (fun _ _ _ _ _ => pe_callTy call_strQ (by rfl) m_str (by decide +kernel) (pa_cons (pv 5) pa_nil))))) pa_nil)))))
      (pss_one (ps_ret (pe_m1 PySem.F.slot_str_join PySem.F.type_str_join mt_joinQ (pe_str) (pv 1))))), ?_⟩
    obtain ⟨_, ca, ga, xs, e, hi, hc, hgt, hgs⟩ := inst_open hI
    cases e
    have h6 := ok.c6
    have h10 := ok.g10
    have lxs : xs.length = gs.length := by have := DpAll.len hgs; rwa [List.length_map] at this
    have bc : ∀ n ∈ cs, 0 ≤ n ∧ n < 10 ^ 29 := fun n hn => by have := ok.cb n hn; omega
    refine ⟨⟨_, rfl⟩, (show (1 : Nat) ≤ sizeLine by decide), fun P nP => ?_⟩
    have sP := sameNew (o := .lst [.str (S [112, 111, 115, 116, 115])]) nP
    have hc1 := sqS sP hc
    refine ⟨.ref i, rfl, i, _, 0, .ref ca, rfl, rfl, sqS sP hi, atI_nat (j := 0) rfl, ca, rfl, ⟨_, hc1⟩, fun D nD => lc_it (walk_tup (K := K) (a := ca) (xs := cs.map V.int)) (LcP (upd H P (.lst [.str (S [112, 111, 115, 116, 115])])) D cs (fun n => some (.str (S (numT n))))) (.start nD) (fun j H3 _ h => sqS h.1 hc1) ?_ ?_⟩
    · rintro k x H5 H6 hk hL ⟨rfl, hx⟩
      have hx : (cs.map V.int)[k]? = some x := hx
      rw [List.getElem?_map] at hx
      obtain ⟨n, hn, rfl⟩ := Option.map_eq_some_iff.mp hx
      have hb2 := bc n (List.mem_of_getElem? hn)
      have hjl := (List.getElem?_eq_some_iff.mp hn).1
      refine ⟨rfl, .int n, rfl, n, rfl, int_log hb2.1 hb2.2, ?_⟩
      rw [num_T hb2.1]
      exact hL.yes nD (Same.refl _) hn rfl (by omega)
    rintro H2 hL
    have e2 := hL.done (by rw [List.length_map]; omega)
    rw [fm_map, nums_S] at e2
    have s2 := sP.trans hL.1
    refine ⟨P, D, _, _, rfl, rfl, hL.1 _ _ upd_same, e2, small6 (by simp; omega), fun L nL => ?_⟩
    have s3 := s2.trans (sameNew (o := .lst ([V.str (S [112, 111, 115, 116, 115])] ++ ((cs.map numT).map S).map V.str)) nL)
    refine ⟨S [32], L, ([112, 111, 115, 116, 115] :: cs.map numT).map S, rfl, rfl, .inl (SqL.of upd_same), join_fits (B := 29) (by rw [List.length_cons, List.length_map]; omega) (fun t ht => ?_) (by decide) (by decide), ?_⟩
    · rcases List.mem_cons.mp ht with rfl | ht
      · decide
      · obtain ⟨n, hn, rfl⟩ := List.mem_map.mp ht
        exact numT_len (bc n hn).2
    rw [join_S]
    refine ⟨(show (1 : Nat) ≤ sizeLine by decide), fun Ls nLs => ?_⟩
    have s4 := s3.trans (sameNew (o := .lst [.str (S (lineP cs))]) nLs)
    have fLs := freeZ s3 nLs
    have eLs : (upd (upd H2 L (.lst ([V.str (S [112, 111, 115, 116, 115])] ++ ((cs.map numT).map S).map V.str))) Ls (.lst [.str (S (lineP cs))])) Ls = some (.lst [.str (S (lineP cs))]) := upd_same
    refine ⟨.ref i, rfl, i, _, 1, .ref ga, rfl, rfl, sqS s4 hi, atI_nat (j := 1) rfl, ga, rfl, ⟨_, sqS s4 hgt⟩, for_it (walk_tup (K := K) (a := ga) (xs := xs))
      (fun j σ H3 => ∃ (y1 y2 : Option V), σ = [some (.ref i), some (.ref Ls), y1, y2, none, none] ∧ Same H H3 ∧ H3 Ls = some (.lst (((lineP cs :: (gs.take j).map lineG).map S).map V.str)))
      ⟨none, none, rfl, s4, eLs⟩ (fun j σ H3 _ h => by obtain ⟨_, _, _, s9, _⟩ := h; exact sqS s9 hgt) ?_ ?_⟩
    · rintro j v σ H3 H4 hlt ⟨y1, y2, rfl, s5, e5⟩ ⟨rfl, hx⟩
      obtain ⟨d, hd, hxd⟩ := DpAll.at hgs hx
      rw [List.getElem?_map] at hd
      obtain ⟨g, hgi, rfl⟩ := Option.map_eq_some_iff.mp hd
      obtain ⟨gA, pA, rfl, hG, hPp⟩ := grp_ref hxd
      have gk := ok.gp g (List.mem_of_getElem? hgi)
      have hj : j < gs.length := (List.getElem?_eq_some_iff.mp hgi).1
      have bp : ∀ n ∈ g.1, 0 ≤ n ∧ n < 10 ^ 29 := fun n hn => by have := gk.2.1 n hn; omega
      have b2 : 0 ≤ g.2 ∧ g.2 < 10 ^ 29 := by have := gk.2.2; omega
      have hl2 := numT_len b2.2
      have lp := gk.1
      refine ⟨gA, _, rfl, sqS s5 hG, rfl, _, _, rfl, _, _, rfl, rfl, ?_⟩
      refine ⟨.ref Ls, rfl, .inl ⟨rfl, _, SqL.of e5⟩, ⟨_, rfl⟩, ?_⟩
      refine ⟨.int g.2, rfl, g.2, rfl, int_log b2.1 b2.2, _, _, rfl, rfl, ?_, ?_⟩
      · rw [num_T b2.1, S_len]; exact small6 (by show (numT g.2).length + 1 ≤ 1000000; omega)
      rw [num_T b2.1, show Str.ofString ":" = S [58] from rfl, S_cat]
      refine ⟨(show (1 : Nat) ≤ sizeLine by decide), fun P6 n6 => ?_⟩
      have s6 := sameNew (o := .lst [.str (S (numT g.2 ++ [58]))]) n6
      have hp6 := sqS (s5.trans s6) hPp
      refine ⟨.ref pA, rfl, pA, rfl, ⟨_, hp6⟩, fun D7 n7 => lc_it (walk_tup (K := K) (a := pA) (xs := g.1.map V.int)) (LcP (upd H4 P6 (.lst [.str (S (numT g.2 ++ [58]))])) D7 g.1 (fun n => some (.str (S (numT n))))) (.start n7) (fun j H3 _ h => sqS h.1 hp6) ?_ ?_⟩
      · rintro k x H5 H6 hk hL ⟨rfl, hx⟩
        have hx : (g.1.map V.int)[k]? = some x := hx
        rw [List.getElem?_map] at hx
        obtain ⟨n, hn, rfl⟩ := Option.map_eq_some_iff.mp hx
        have hb2 := bp n (List.mem_of_getElem? hn)
        have hjl := (List.getElem?_eq_some_iff.mp hn).1
        refine ⟨rfl, .int n, rfl, n, rfl, int_log hb2.1 hb2.2, ?_⟩
        rw [num_T hb2.1]
        exact hL.yes n7 (Same.refl _) hn rfl (by omega)
      rintro H8 hL
      have e8 := hL.done (by rw [List.length_map]; omega)
      rw [fm_map, nums_S] at e8
      have s8 := s6.trans hL.1
      refine ⟨P6, D7, _, _, rfl, rfl, hL.1 _ _ upd_same, e8, small6 (by simp; omega), fun L9 n9 => ?_⟩
      have s9 := s8.trans (sameNew (o := .lst ([V.str (S (numT g.2 ++ [58]))] ++ ((g.1.map numT).map S).map V.str)) n9)
      refine ⟨S [32], L9, ((numT g.2 ++ [58]) :: g.1.map numT).map S, rfl, rfl, .inl (SqL.of upd_same), join_fits (B := 30) (by rw [List.length_cons, List.length_map]; omega) (fun t ht => ?_) (by decide) (by decide), ?_⟩
      · rcases List.mem_cons.mp ht with rfl | ht
        · rw [List.length_append]; simp; omega
        · obtain ⟨n, hn, rfl⟩ := List.mem_map.mp ht
          exact Nat.le_trans (numT_len (bp n hn).2) (by decide)
      rw [join_S]
      refine ⟨Ls, _, _, rfl, rfl, s9 _ _ e5, small (by simp; omega), ?_⟩
      refine ⟨_, _, rfl, samePut (s5.trans s9) fLs, ?_⟩
      rw [upd_same, take_snoc hgi]
      simp only [List.map_append, List.map_cons, List.map_nil, List.cons_append]
      rfl
    · rintro σ H3 ⟨y1, y2, rfl, s5, e5⟩
      rw [lxs, List.take_length] at e5
      refine ⟨⟨_, rfl⟩, .ref Ls, rfl, S [10], Ls, (lineP cs :: gs.map lineG).map S, rfl, rfl, .inl (SqL.of e5), join_fits (B := 400) (by rw [List.length_cons, List.length_map]; omega) (fun t ht => ?_) (by decide) (by decide), ?_⟩
      · rcases List.mem_cons.mp ht with rfl | ht
        · exact lineP_len ok
        · obtain ⟨g, hg, rfl⟩ := List.mem_map.mp ht
          exact lineG_len ok hg
      · rw [join_S]
        exact q _ s5
end
end Pv

namespace Pv
open PySem PySem.Spec PyProof.Rows L2 SX
/-! a number's text is ascii, digits, and begins with 0 only for 0 -/
theorem numT_dig (i : Int) : ∀ c ∈ numT i, 48 ≤ c ∧ c ≤ 57 := fun c hc => TL.numL_digits _ c hc
theorem num_ascii (i : Int) : Txt.isascii (S (numT i)) = true := by
  unfold Txt.isascii
  rw [← Array.all_toList]
  refine List.all_eq_true.mpr fun c hc => ?_
  have := numT_dig i c hc
  exact decide_eq_true (by omega)
theorem num_digit (i : Int) : Txt.isdigit (S (numT i)) = true := by
  unfold Txt.isdigit
  have hl : 0 < (S (numT i)).length := by rw [S_len]; exact List.length_pos_iff.mpr (numT_ne i)
  rw [Bool.and_eq_true, decide_eq_true_eq, ← Array.all_toList]
  refine ⟨hl, List.all_eq_true.mpr fun c hc => ?_⟩
  have h := numT_dig i c hc
  have k : ∀ n : _root_.Fin 128, 48 ≤ n.val → n.val ≤ 57 → Unicode.isDigit n.val = true := by decide +kernel
  exact k ⟨c, by omega⟩ h.1 h.2
theorem num_int {i : Int} (h0 : 0 ≤ i) (h : i < 10 ^ 29) : intText? (S (numT i)) = some i := by
  have hl := numT_len h
  have e := int_S (a := numT i) (List.all_eq_true.mpr fun c hc => by
    have := numT_dig i c hc
    rw [Bool.and_eq_true, decide_eq_true_eq, decide_eq_true_eq]; exact this) (numT_ne i) (by omega)
  rw [e]
  unfold numT
  rw [TL.numL_val]
  congr 1
  omega
end Pv

namespace Pv
open PySem PySem.Spec PyProof.Rows L2 SX
/-! what parse_number reads of any text -/
def digL (a : List Nat) : Bool := a.all (fun c => decide (48 ≤ c) && decide (c ≤ 57))
theorem digL_iff {a : List Nat} : digL a = true ↔ ∀ c ∈ a, 48 ≤ c ∧ c ≤ 57 := by
  unfold digL
  rw [List.all_eq_true]
  constructor
  · intro h c hc
    have := h c hc
    rw [Bool.and_eq_true, decide_eq_true_eq, decide_eq_true_eq] at this
    exact this
  · intro h c hc
    rw [Bool.and_eq_true, decide_eq_true_eq, decide_eq_true_eq]
    exact h c hc
theorem dig_one : ∀ n : _root_.Fin 128, Unicode.isDigit n.val = (decide (48 ≤ n.val) && decide (n.val ≤ 57)) := by decide +kernel
theorem asc_iff (a : List Nat) : Txt.isascii (S a) = true ↔ ∀ c ∈ a, c < 128 := by
  unfold Txt.isascii
  rw [← Array.all_toList, List.all_eq_true]
  exact ⟨fun h c hc => of_decide_eq_true (h c hc), fun h c hc => decide_eq_true (h c hc)⟩
theorem dig_iff {a : List Nat} (h : ∀ c ∈ a, c < 128) : Txt.isdigit (S a) = (decide (a ≠ []) && digL a) := by
  have e1 : Txt.isdigit (S a) = (decide (0 < (S a).length) && a.all Unicode.isDigit) := by
    unfold Txt.isdigit
    rw [← Array.all_toList] <;> rfl
  have e2 : a.all Unicode.isDigit = digL a := by
    unfold digL
    rw [Bool.eq_iff_iff, List.all_eq_true, List.all_eq_true]
    constructor
    · intro hh c hc
      exact (dig_one ⟨c, h c hc⟩).symm.trans (hh c hc)
    · intro hh c hc
      exact (dig_one ⟨c, h c hc⟩).trans (hh c hc)
  rw [e1, e2, S_len]
  congr 1
  exact decide_eq_decide.mpr List.length_pos_iff
theorem plain_iff (a : List Nat) : (Txt.isascii (S a) = true ∧ Txt.isdigit (S a) = true) ↔ (a ≠ [] ∧ digL a = true) := by
  rw [asc_iff]
  constructor
  · rintro ⟨h, k⟩
    rw [dig_iff h, Bool.and_eq_true, decide_eq_true_eq] at k
    exact k
  · rintro ⟨h, k⟩
    have h2 : ∀ c ∈ a, c < 128 := fun c hc => by have := digL_iff.mp k c hc; omega
    refine ⟨h2, ?_⟩
    rw [dig_iff h2, Bool.and_eq_true, decide_eq_true_eq]
    exact ⟨h, k⟩
theorem sub_one (c d : Nat) : Txt.startswith (S [c]) (S [d]) = decide (c = d) := by
  unfold Txt.startswith
  rw [S_len, S_len]
  have : Builtin.Str.subAt (S [c]) (S [d]) 0 = decide (c = d) := by
    simp [Builtin.Str.subAt, S]
    show ([c] == [d]) = decide (c = d)
    rw [Bool.eq_iff_iff]
    simp
  rw [this]; rfl
theorem starts_one (d : Nat) : ∀ a : List Nat, Txt.startswith (S a) (S [d]) = decide (a.head? = some d)
  | [] => by
    unfold Txt.startswith
    rw [S_len, S_len]
    rfl
  | c :: r => by
    rw [show S (c :: r) = S [c] ++ S r from (S_cat [c] r).symm, PySem.W.KAf.starts_left (by rw [S_len, S_len]; exact Nat.le_refl _), sub_one]
    exact decide_eq_decide.mpr (by simp)
theorem ends_snoc (d : Nat) (a : List Nat) (c : Nat) : Txt.endswith (S (a ++ [c])) (S [d]) = decide (c = d) := by
  rw [← S_cat, PySem.W.KAf.ends_right (by rw [S_len, S_len]; exact Nat.le_refl _)]
  have : Txt.endswith (S [c]) (S [d]) = Txt.startswith (S [c]) (S [d]) := by
    unfold Txt.endswith Txt.startswith
    rw [S_len, S_len]; rfl
  rw [this, sub_one]
theorem ends_nil (d : Nat) : Txt.endswith (S []) (S [d]) = false := by
    unfold Txt.endswith
    rw [S_len, S_len]
    rfl
def pnO (a : List Nat) : Option Int := if a ≠ [] ∧ digL a = true then (if 30 < a.length then none else if a.head? = some 48 ∧ 1 < a.length then none else some (NumText.digitsVal a : Nat)) else none
def oV : Option Int → V
  | some n => .int n
  | none => .non
def oD : Option Int → PyData
  | some n => .int n
  | none => .none
theorem numL_head : ∀ n : Nat, 0 < n → (TL.numL n).head? ≠ some 48 := by
  intro n
  induction n using Nat.strongRecOn with
  | ind n ih =>
    intro h
    by_cases k : n < 10
    · rw [TL.numL_lt k]; simp; omega
    · rw [TL.numL_step (by omega)]
      have := ih (n / 10) (by omega) (by omega)
      cases e : TL.numL (n / 10) with
      | nil => exact absurd e (TL.numL_ne _)
      | cons c r => rw [e] at this; simpa using this
theorem pnO_num {i : Int} (h0 : 0 ≤ i) (h : i < 10 ^ 29) : pnO (numT i) = some i := by
  have hl := numT_len h
  unfold pnO
  rw [if_pos ⟨numT_ne i, digL_iff.mpr (numT_dig i)⟩, if_neg (by omega), if_neg]
  · unfold numT
    rw [TL.numL_val]
    congr 1
    omega
  · rintro ⟨h1, h2⟩
    by_cases z : i.toNat = 0
    · unfold numT at h2
      rw [z, TL.numL_lt (by decide)] at h2
      simp at h2
    · exact numL_head _ (by omega) h1
theorem pnO_nn {a : List Nat} {i : Int} (h : pnO a = some i) : 0 ≤ i := by
  unfold pnO at h
  split at h
  · split at h
    · cases h
    · split at h
      · cases h
      · cases h; omega
  · cases h
theorem oV_oD {K : PySem.W.Frag} {H : Hp} (o : Option Int) : Dp K H (oV o) (oD o) := by
  cases o with
  | none => exact .non
  | some n => exact .int n
end Pv

namespace Pv
open PySem PySem.Spec PyProof.Rows L2 SX
abbrev sPn : Stmt := topS 19
theorem scPn : FnScope ["text", "digits"] ["text", "digits"] (defScope sPn) := ⟨rfl, rfl, rfl, by decide +kernel, rfl, by decide +kernel, by decide +kernel⟩
abbrev sPs : Stmt := topS 20
theorem scPs : FnScope ["words", "word"] ["words"] (defScope sPs) := ⟨rfl, rfl, rfl, by decide +kernel, rfl, by decide +kernel, by decide +kernel⟩
theorem bT {c : Bool} {A B : Prop} (e : c = true) (h : A) : if c = true then A else B := by rw [if_pos e]; exact h
section
variable {P : Program} {w : World} {K : PySem.W.Frag} {mg : Str → Option Value} {base : Heap}
def spPn (K : PySem.W.Frag) : Sp := fun vs H Q _ => ∃ (a : List Nat), vs = [.str (S a), .int 30] ∧ a.length ≤ 100000 ∧ Q (oV (pnO a)) H
set_option maxHeartbeats 4000000 in
theorem ok_Pn {f : Addr} {fd : FuncData} (F : Fun K "parse_number" "parse_number" sPn f fd)
    (m_len : mg "len" = none) (m_int : mg "int" = none) :
    FnOk P w K mg base CX0 1 f fd ["text", "digits"] (spPn K) := by
  refine F.ok scPn (fun vs H Q E h => ?_) (fun cdv A outer s H vs Q E hr h => ?_)
  · obtain ⟨a, rfl, _⟩ := h; rfl
  · obtain ⟨a, rfl, hl, q⟩ := h
    refine ⟨_, pss_cons (ps_if (PW.pt (pw_or (pt_not (PW.pt (pw_and (pt_val (pe_m0 PySem.F.slot_str_isascii PySem.F.type_str_isascii mt_isasciiQ (pv 0))) (pw_and1 (pt_val (pe_m0 PySem.F.slot_str_isdigit PySem.F.type_str_isdigit mt_isdigitQ (pv 0))))))) (pw_or1 (pt_cmpR op_gt (pe_callB call_lenS (by rfl) m_len PySem.boot_len (pa_cons (pv 0) pa_nil)) (pv 1) (nomark _)))))
        (pss_one (ps_ret (pe_non))) pss_nil)
      (pss_cons (ps_if (PW.pt (pw_and (pt_val (pe_m1 PySem.F.slot_str_startswith PySem.F.type_str_startswith mt_startswithQ (pv 0) (pe_str))) (pw_and1 (pt_cmpR op_gt (pe_callB call_lenS (by rfl) m_len PySem.boot_len (pa_cons (pv 0) pa_nil)) (pe_int) (nomark _)))))
        (pss_one (ps_ret (pe_non))) pss_nil)
      (pss_one (ps_ret (pe_callTy call_intQ (by rfl) m_int (by decide +kernel) (pa_cons (pv 0) pa_nil))))), ?_⟩
    have hl6 : (S a).length ≤ sizeLine := by rw [S_len]; exact small6 (by omega)
    by_cases hp : a ≠ [] ∧ digL a = true
    · have k := (plain_iff a).mpr hp
      refine ⟨.str (S a), rfl, ⟨_, rfl⟩, _, rfl, rfl, trivial, _, rfl, bT k.1 ?_⟩
      refine ⟨.str (S a), rfl, ⟨_, rfl⟩, _, rfl, rfl, trivial, _, rfl, ?_⟩
      rw [k.2]
      refine iteF ?_
      refine ⟨.str (S a), rfl, _, rfl, hl6, .int 30, rfl, _, _, rfl, rfl, _, rfl, ?_⟩
      refine ite2 (fun h1 => ?_) (fun h1 => ?_)
      · have h1 : 30 < a.length := by have := of_decide_eq_true h1; rw [S_len] at this; omega
        have e : oV (pnO a) = .non := by unfold pnO; rw [if_pos hp, if_pos h1]; rfl
        rw [e] at q
        exact q
      · have h1 : ¬ 30 < a.length := fun z => h1 (decide_eq_true (by rw [S_len]; omega))
        refine ⟨.str (S a), rfl, ⟨_, rfl⟩, _, _, rfl, rfl, _, rfl, ?_⟩
        rw [show Str.ofString "0" = S [48] from rfl, starts_one]
        have fin : (∃ xs : Option Int, True) → ¬ (a.head? = some 48 ∧ 1 < a.length) → tRet (tCB rIntS (tCons (tVar 0) tNil)) { nx := fun x H' => Q V.non H', rt := Q } (L2.start [Str.ofString "text", Str.ofString "digits"] [V.str (S a), V.int 30]) H := fun _ z => by
          refine ⟨.str (S a), rfl, S a, _, rfl, int_S hp.2 hp.1 (by omega), by rw [S_len]; omega, ?_⟩
          have e : oV (pnO a) = .int (NumText.digitsVal a : Nat) := by unfold pnO; rw [if_pos hp, if_neg h1, if_neg z]; rfl
          rw [e] at q
          exact q
        refine ite2 (fun h2 => ?_) (fun h2 => ?_)
        · have h2 := of_decide_eq_true h2
          refine ⟨.str (S a), rfl, _, rfl, hl6, _, _, rfl, rfl, _, rfl, ?_⟩
          refine ite2 (fun h3 => ?_) (fun h3 => ?_)
          · have h3 : 1 < a.length := by have := of_decide_eq_true h3; rw [S_len] at this; omega
            have e : oV (pnO a) = .non := by unfold pnO; rw [if_pos hp, if_neg h1, if_pos ⟨h2, h3⟩]; rfl
            rw [e] at q
            exact q
          · exact fin ⟨none, trivial⟩ fun z => h3 (decide_eq_true (by rw [S_len]; omega))
        · exact fin ⟨none, trivial⟩ fun z => h2 (decide_eq_true z.1)
    · have e : oV (pnO a) = .non := by unfold pnO; rw [if_neg hp]; rfl
      rw [e] at q
      refine ⟨.str (S a), rfl, ⟨_, rfl⟩, _, rfl, rfl, trivial, _, rfl, ?_⟩
      refine ite2 (fun h1 => ?_) (fun h1 => ?_)
      · refine ⟨.str (S a), rfl, ⟨_, rfl⟩, _, rfl, rfl, trivial, _, rfl, ?_⟩
        have e2 : Txt.isdigit (S a) = false := by
          cases e3 : Txt.isdigit (S a) with
          | false => rfl
          | true => exact absurd ((plain_iff a).mp ⟨h1, e3⟩) hp
        rw [e2]
        exact q
      · exact q
def spPs (K : PySem.W.Frag) : Sp := fun vs H Q _ => ∃ (p : Addr) (ws : List (List Nat)), vs = [.ref p] ∧ SqL K H p ((ws.map S).map V.str) ∧ ws.length ≤ 100000 ∧ (∀ a ∈ ws, a.length ≤ 100000) ∧ ∀ H' t, Same H H' → H' t = some (.tup (ws.map fun a => oV (pnO a))) → Q (.ref t) H'
set_option maxHeartbeats 4000000 in
theorem ok_Ps {f fPn : Addr} {fd fdPn : FuncData} (F : Fun K "parse_numbers" "parse_numbers" sPs f fd)
    (FPn : Fun K "parse_number" "parse_number" sPn fPn fdPn) (bPn : Binds K fdPn ["text", "digits"] []) (gPn : mg "parse_number" = some (.ref fPn)) (GPn : FnOk P w K mg base CX0 1 fPn fdPn ["text", "digits"] (spPn K))
    {uLONGEST : Value} (vLONGEST : mg "LONGEST" = some uLONGEST) (rLONGEST : RelV (.int 30) uLONGEST)
    (m_tuple : mg "tuple" = none) :
    FnOk P w K mg base CX0 2 f fd ["words"] (spPs K) := by
  refine F.ok scPs (fun vs H Q E h => ?_) (fun cdv A outer s H vs Q E hr h => ?_)
  · obtain ⟨p, ws, rfl, _⟩ := h; rfl
  · obtain ⟨p, ws, rfl, hp, hl, hb, q⟩ := h
    refine ⟨_, pss_one (ps_ret (pe_callTy call_tupQ (by rfl) m_tuple (by decide +kernel) (pa_cons (pe_lc (own := [("word", 1)]) (g := gName 1) (tt := tYes) (te := tCall (spPn K) [] E0 (tCons (tVar 1) (tCons (tC (.int 30)) tNil))) rfl scPs.nd (pi_list (pv 0)) (blkOk_by (N := ["words", "word"]) (sc := defScope sPs) (by decide +kernel)) (fun _ _ _ _ _ => pg_name (i := 1) scPs.nd rfl (.inl rfl)) (fun _ _ _ _ _ => pts_nil) (fun _ _ _ _ _ => pe_call GPn (hr.mono (by omega)) (by rfl) gPn FPn.kp bPn .nil pass0 (pa_cons (pv 1) (pa_cons (pe_glob (by rfl) vLONGEST rLONGEST) pa_nil)))) pa_nil))), ?_⟩
    have hp2 : SqL K H p (ws.map fun a => V.str (S a)) := by rw [List.map_map] at hp; exact hp
    refine ⟨.ref p, rfl, p, rfl, ⟨_, hp2⟩, fun D nD => lc_it (walk_list (K := K) (a := p)) (LcP H D ws (fun a => some (oV (pnO a)))) (.start nD) (fun j H3 _ h => h.1.seq hp2) ?_ ?_⟩
    · rintro j x H3 H4 hj hL ⟨rfl, hx⟩
      have hx : (ws.map fun a => V.str (S a))[j]? = some x := hx
      rw [List.getElem?_map] at hx
      obtain ⟨n, hn, rfl⟩ := Option.map_eq_some_iff.mp hx
      have hjl := (List.getElem?_eq_some_iff.mp hn).1
      refine ⟨rfl, .str (S n), rfl, n, rfl, hb n (List.mem_of_getElem? hn), ?_⟩
      exact hL.yes nD (Same.refl _) hn rfl (by omega)
    · rintro H3 hL
      have e3 := hL.done (by rw [List.length_map]; omega)
      rw [fm_map] at e3
      exact ⟨D, _, rfl, .inl ⟨SqL.of e3, fun t nt => q _ t (hL.1.trans (sameNew nt)) upd_same⟩⟩
end
end Pv

namespace Pv
open PySem PySem.Spec PyProof.Rows L2
section
variable {K : PySem.W.Frag} {H : Hp} {a b : Addr} {xs ys : List V} {Q : VK}
/-! slices and sums of tuples, whichever object comes back -/
theorem take_eq (hP : SqT K H a xs) (n : Nat) (h : ∀ (H' : Hp) (b : Addr), Same H H' → SqT K H' b (xs.take n) → Q (.ref b) H') : rSlA K (.ref a) none (some (n : Int)) H Q := by
  have hcut : cutV xs none (some (n : Int)) = xs.take n := cut_to _ n
  refine ⟨a, _, rfl, hP, fun hw => ?_, fun _ p np => ?_⟩
  · refine h H a (Same.refl _) ?_
    have e : xs.take n = xs := by
      rw [← hcut]
      unfold cutV
      rw [hw.1, hw.2, List.drop_zero, Nat.sub_zero, List.take_length]
    rw [e]; exact hP
  · refine h _ p (sameNew np) (SqT.of ?_)
    rw [upd_same, hcut]
theorem cut_tail (xs : List V) (n : Nat) : cutV xs (some (n : Int)) none = xs.drop n := by
  unfold cutV
  rw [HT.sIx_nat, HT.sIx_none]
  by_cases h : n ≤ xs.length
  · rw [Nat.min_eq_left h, List.take_of_length_le (by rw [List.length_drop]; exact Nat.le_refl _)]
  · rw [Nat.min_eq_right (by omega), List.drop_eq_nil_of_le (Nat.le_refl _), List.drop_eq_nil_of_le (by omega)]; simp
theorem drop_eq (hP : SqT K H a xs) (n : Nat) (h : ∀ (H' : Hp) (b : Addr), Same H H' → SqT K H' b (xs.drop n) → Q (.ref b) H') : rSlA K (.ref a) (some (n : Int)) none H Q := by
  have hcut := cut_tail xs n
  refine ⟨a, _, rfl, hP, fun hw => ?_, fun _ p np => ?_⟩
  · refine h H a (Same.refl _) ?_
    have e : xs.drop n = xs := by
      rw [← hcut]
      unfold cutV
      rw [hw.1, hw.2, List.drop_zero, Nat.sub_zero, List.take_length]
    rw [e]; exact hP
  · refine h _ p (sameNew np) (SqT.of ?_)
    rw [upd_same, hcut]
theorem cat_eq (ha : SqT K H a xs) (hb : SqT K H b ys) (hz : xs.length + ys.length ≤ sizeLine) (h : ∀ (H' : Hp) (p : Addr), Same H H' → SqT K H' p (xs ++ ys) → Q (.ref p) H') : rCatA K (.ref a) (.ref b) H Q := by
  refine ⟨a, b, xs, ys, rfl, rfl, ha, hb, hz, fun e => ?_, fun _ e => ?_, fun _ _ p np => ?_⟩
  · subst e; exact h H b (Same.refl _) (by simpa using hb)
  · subst e; exact h H a (Same.refl _) (by simpa using ha)
  · exact h _ p (sameNew np) (SqT.of upd_same)
end
/-! the greatest of a tuple of ints -/
def rMaxT (K : PySem.W.Frag) : RC := fun xs H Q => ∃ (a : Addr) (ns : List Int), xs = [.ref a] ∧ SqT K H a (ns.map V.int) ∧ 0 < ns.length ∧ ∀ m, m ∈ ns → (∀ y ∈ ns, y ≤ m) → Q (.int m) H
theorem call_maxT {X : Cx} (hc : X.calm = true) : CallR X (.builtin "max") (rMaxT X.K) := by
  intro pins s σ H xs us Q I r h
  obtain ⟨a, ns, rfl, hT, hne, q⟩ := h
  obtain ⟨u, rfl, rfl⟩ := vals1 r
  obtain ⟨its, rv, ht, hz⟩ := I.tuple hT
  have hi : IntsAre its ns := rv.ints
  obtain ⟨ys, e⟩ := hi.allInts.items
  have hn : numsOf (intItems ys).toList = ns := by rw [← e]; exact hi.numsOf
  rw [nums_intItems] at hn
  rw [e] at ht
  subst hn
  have hsz : 0 < ys.size := by simpa using hne
  have ht' : s.heap.IsTuple a (intItems ys) := ht
  have hlt : a < s.heap.objs.size := by obtain ⟨_, z, _⟩ := ht; exact Heap.lt_size z
  refine call_max_walk (wpAny_pyIter_tuple ht' ?_)
  refine ⟨_, _, _, _, _, _, _, rfl, Walks.tuple (A := X.A.in1) (I.ok.hd hc) _ a (Nat.ne_of_lt hlt) (intItems ys), ⟨⟨_, Heap.get?_push_size _ rfl, rfl, rfl⟩, ht'.push _⟩, ?_, by simpa [intItems] using hsz, CmpOf.ints_gt (numAt ys) (fun _ _ => intItems_at), ?_⟩
  · intro b hb
    show b < (s.heap.push _).objs.size
    rw [Heap.size_push]
    simp only [List.mem_cons, List.not_mem_nil, or_false] at hb
    rcases hb with rfl | rfl
    · exact Nat.lt_succ_self _
    · exact Nat.lt_succ_of_lt hlt
  · intro v h' tk hP hk
    have hP' : (intItems ys)[argBest (fun i j => decide (numAt ys i > numAt ys j)) (ys.size - 1)]? = some v := by simpa [intItems] using hP
    obtain ⟨t, rfl⟩ := intItems_at hP'
    obtain ⟨h1, h2⟩ := argBest_gt (numAt ys) (ys.size - 1)
    refine ⟨.int _, H, I.kept (t' := tk) (h' := h') ?_, ⟨_, rfl⟩, q _ ?_ ?_⟩
    · intro b o eb
      refine hk b o (fun hm => ?_) (Heap.get?_push_of_some _ eb)
      exact absurd (Heap.lt_size eb) ((List.mem_singleton.mp hm) ▸ Nat.lt_irrefl _)
    · rw [numAt_eq]; exact PySem.getD_mem (by rw [List.length_map, Array.length_toList]; omega)
    · intro y hy
      obtain ⟨j, hj, rfl⟩ := mem_getD hy
      rw [List.length_map, Array.length_toList] at hj
      rw [← numAt_eq]; exact h2 j (by omega)
end Pv

namespace Pv
open PySem PySem.Spec PyProof.Rows L2 SX
/-! words of a text -/
theorem pre_one (c d : Nat) (r : List Nat) : TL.pre [c] (d :: r) = decide (d = c) := by
  unfold TL.pre
  rw [Bool.eq_iff_iff]
  simp
theorem spl_len (c : Nat) : ∀ (l acc : List Nat), (TL.spl [c] 0 acc l).length ≤ l.length + 1
  | [], acc => by rw [TL.spl_nil]; simp
  | d :: r, acc => by
    by_cases h : TL.pre [c] (d :: r) = true
    · rw [TL.spl_hit h]
      have := spl_len c r []
      simp only [List.length_cons, List.length_nil] at this ⊢
      exact Nat.succ_le_succ this
    · rw [TL.spl_miss (by simpa using h)]
      have := spl_len c r (acc ++ [d])
      rw [List.length_cons]; omega
theorem spl_each (c : Nat) : ∀ (l acc : List Nat), ∀ w ∈ TL.spl [c] 0 acc l, w.length ≤ acc.length + l.length
  | [], acc => by rw [TL.spl_nil]; simp
  | d :: r, acc => by
    intro w hw
    by_cases h : TL.pre [c] (d :: r) = true
    · rw [TL.spl_hit h] at hw
      rcases List.mem_cons.mp hw with rfl | hw
      · omega
      · have := spl_each c r [] w hw
        simp at this ⊢; omega
    · rw [TL.spl_miss (by simpa using h)] at hw
      have := spl_each c r (acc ++ [d]) w hw
      simp at this ⊢; omega
theorem spl_some (c : Nat) : ∀ (l acc : List Nat), TL.spl [c] 0 acc l ≠ []
  | [], acc => by rw [TL.spl_nil]; simp
  | d :: r, acc => by
    by_cases h : TL.pre [c] (d :: r) = true
    · rw [TL.spl_hit h]; simp
    · rw [TL.spl_miss (by simpa using h)]; exact spl_some c r _
def wds (c : Nat) (a : List Nat) : List (List Nat) := TL.spl [c] 0 [] a
theorem wds_len (c : Nat) (a : List Nat) : (wds c a).length ≤ a.length + 1 := spl_len c a []
theorem wds_each {c : Nat} {a w : List Nat} (h : w ∈ wds c a) : w.length ≤ a.length := by have := spl_each c a [] w h; simpa using this
theorem wds_cons (c : Nat) (a : List Nat) : ∃ w ws, wds c a = w :: ws := by
  cases e : wds c a with
  | nil => exact absurd e (spl_some c a [])
  | cons w ws => exact ⟨w, ws, rfl⟩
theorem wds_join {c : Nat} {parts : List (List Nat)} (hne : parts ≠ []) (h : ∀ p ∈ parts, c ∉ p) : wds c (TL.joinL [c] parts) = parts := spl_join hne h
theorem split_wds {a : List Nat} {c : Nat} (hc : c < 256) : Txt.split (S a) (S [c]) = (wds c a).map S := split_S (by simp) (by simpa using hc)
def dWs (ws : List (List Nat)) : List PyData := ws.map fun a => oD (pnO a)
theorem dp_ws {K : PySem.W.Frag} {H : Hp} (ws : List (List Nat)) : DpAll K H (ws.map fun a => oV (pnO a)) (dWs ws) := by
  unfold dWs
  induction ws with
  | nil => exact .nil
  | cons a ws ih => exact .cons (oV_oD _) ih
theorem to_oD (o : Option Int) : tupOnly (oD o) = true := by cases o <;> rfl
theorem to_ws (ws : List (List Nat)) : tupOnly (.tuple (dWs ws)) = true := by
  simp only [tupOnly]
  refine tupOnlyAll_of fun d hd => ?_
  unfold dWs at hd
  obtain ⟨a, _, rfl⟩ := List.mem_map.mp hd
  exact to_oD _
theorem cut_tail1 (xs : List V) : cutV xs (some 1) none = xs.drop 1 := cut_tail xs 1
theorem to_pair (a b : PyData) (h : tupOnly a = true) (k : tupOnly b = true) : tupOnly (.tuple [a, b]) = true := by simp [tupOnly, tupOnlyAll, h, k]
theorem to_one (a : PyData) (h : tupOnly a = true) : tupOnly (.tuple [a]) = true := by simp [tupOnly, tupOnlyAll, h]
theorem ends_last (d : Nat) (w : List Nat) : Txt.endswith (S w) (S [d]) = decide (w.getLast? = some d) := by
  rcases List.eq_nil_or_concat w with rfl | ⟨b, c, rfl⟩
  · rw [ends_nil]; simp
  · rw [List.concat_eq_append, ends_snoc]
    exact decide_eq_decide.mpr (by simp)
theorem slice_drop {w : List Nat} (h : w ≠ []) : Txt.slice (S w) none (some (-1)) = S w.dropLast := by
  rw [slice_butlast h, List.dropLast_eq_take]
end Pv

namespace Pv
open PySem PySem.Spec PyProof.Rows L2 SX
abbrev sPp : Stmt := topS 22
theorem scPp : FnScope ["line", "words", "posts"] ["line"] (defScope sPp) := ⟨rfl, rfl, rfl, by decide +kernel, rfl, by decide +kernel, by decide +kernel⟩
abbrev sPg : Stmt := topS 23
theorem scPg : FnScope ["line", "post_count", "words", "head", "group"] ["line", "post_count"] (defScope sPg) := ⟨rfl, rfl, rfl, by decide +kernel, rfl, by decide +kernel, by decide +kernel⟩

theorem slLt {K : PySem.W.Frag} {H : Hp} {a : Addr} {xs : List V} {Q : VK} {σ : L2.St} {lo : Option Int} (hP : SqL K H a xs) (h : ∀ p, H p = none → Q (.ref p) (upd H p (.lst (cutV xs lo none)))) : tNoPart σ H (fun u H3 => rSlL K (.ref a) lo u H3 Q) := ⟨a, xs, rfl, hP, h⟩
theorem dp_at {K : PySem.W.Frag} {H : Hp} : ∀ {vs : List V} {ds : List PyData} {i : Nat} {d : PyData}, DpAll K H vs ds → ds[i]? = some d → ∃ v, vs[i]? = some v ∧ Dp K H v d
  | _, _, _, _, .nil, e => by simp at e
  | _, _, 0, _, .cons h _, e => by simp at e; subst e; exact ⟨_, rfl, h⟩
  | _, _, i + 1, _, .cons _ t, e => by
    simp at e
    obtain ⟨v, hv, h⟩ := dp_at t e
    exact ⟨v, by simpa using hv, h⟩
def ppD (a : List Nat) : PyData := match wds 32 a with
  | [] => .none
  | w0 :: ws => if w0 = [112, 111, 115, 116, 115] ∧ postsE (.tuple (dWs ws)) = none then .tuple (dWs ws) else .none
def gD (w0 : List Nat) (ws : List (List Nat)) : PyData := .tuple [.tuple (dWs ws), oD (pnO w0.dropLast)]
def pgD (n : Nat) (a : List Nat) : PyData := match wds 32 a with
  | [] => .none
  | w0 :: ws => if w0.getLast? = some 58 ∧ groupsE n (.tuple [gD w0 ws]) = none then gD w0 ws else .none
section
variable {P : Program} {w : World} {K : PySem.W.Frag} {mg : Str → Option Value} {base : Heap}
def spPp (K : PySem.W.Frag) : Sp := fun vs H Q _ => ∃ (a : List Nat), vs = [.str (S a)] ∧ a.length ≤ 90000 ∧ ∀ H' x, Same H H' → Dp K H' x (ppD a) → Q x H'
set_option maxHeartbeats 4000000 in
theorem ok_Pp {f fPs fPe : Addr} {fd fdPs fdPe : FuncData} (F : Fun K "parse_posts" "parse_posts" sPp f fd)
    (FPs : Fun K "parse_numbers" "parse_numbers" sPs fPs fdPs) (bPs : Binds K fdPs ["words"] []) (gPs : mg "parse_numbers" = some (.ref fPs)) (GPs : FnOk P w K mg base CX0 2 fPs fdPs ["words"] (spPs K))
    (FPe : Fun K "posts_error" "posts_error" sPErr fPe fdPe) (bPe : Binds K fdPe ["posts"] []) (gPe : mg "posts_error" = some (.ref fPe)) (GPe : FnOk P w K mg base CX0 5 fPe fdPe ["posts"] (spErr K postsE))
     :
    FnOk P w K mg base CX0 6 f fd ["line"] (spPp K) := by
  refine F.ok scPp (fun vs H Q E h => ?_) (fun cdv A outer s H vs Q E hr h => ?_)
  · obtain ⟨a, rfl, _⟩ := h; rfl
  · obtain ⟨a, rfl, hl, q⟩ := h
    refine ⟨_, pss_cons (ps_set (i := 1) scPp.nd rfl (.inl rfl) (pe_m1 PySem.F.slot_str_split PySem.F.type_str_split mt_splitQ (pv 0) (pe_str)))
      (pss_cons (ps_set (i := 2) scPp.nd rfl (.inl rfl) (pe_call GPs (hr.mono (by omega)) (by rfl) gPs FPs.kp bPs .nil pass0 (pa_cons (pe_slice sl_list (pv 1) (po_some (pe_int)) po_none) pa_nil)))
      (pss_cons (ps_if (PW.pt (pw_or (pt_cmpR op_ne (pe_ix ix_list (pv 1) (pe_int) (fun _ _ => rfl)) (pe_str) (nomark _)) (pw_or1 (pt_cmp (pc_notN (pe_call GPe (hr.mono (by omega)) (by rfl) gPe FPe.kp bPe .nil pass0 (pa_cons (pv 2) pa_nil)))))))
        (pss_one (ps_ret (pe_non))) pss_nil)
      (pss_one (ps_ret (pv 2))))), ?_⟩
    have hl6 : (S a).length + 2 ≤ sizeLine := by rw [S_len]; exact small6 (by omega)
    refine ⟨.str (S a), rfl, ⟨_, rfl⟩, _, _, rfl, rfl, rfl, hl6, fun p np => ?_⟩
    rw [show Str.ofString " " = S [32] from rfl, split_wds (by decide)]
    obtain ⟨w0, ws, ew⟩ := wds_cons 32 a
    have wl := wds_len 32 a
    have we : ∀ w ∈ ws, w.length ≤ 100000 := fun w hw => by have := wds_each (c := 32) (a := a) (w := w) (by rw [ew]; exact List.mem_cons_of_mem _ hw); omega
    rw [ew, List.length_cons] at wl
    rw [ew]
    have s1 := sameNew (o := .lst (((w0 :: ws).map S).map V.str)) np
    refine ⟨.ref p, rfl, 1, rfl, slLt (SqL.of upd_same) fun p2 np2 => ?_⟩
    rw [cut_tail1]
    have s2 := s1.trans (sameNew (o := .lst ((((w0 :: ws).map S).map V.str).drop 1)) np2)
    refine ⟨p2, ws, rfl, SqL.of upd_same, by omega, we, fun H3 t s3 ht => ?_⟩
    have s03 := s2.trans s3
    have hp3 : H3 p = some (.lst (((w0 :: ws).map S).map V.str)) := s3 _ _ ((sameNew np2) _ _ upd_same)
    have hD : Dp K H3 (.ref t) (.tuple (dWs ws)) := .tup (.inl (.inl ht)) (dp_ws ws)
    refine ⟨.ref p, rfl, p, _, 0, .str (S w0), rfl, rfl, SqL.of hp3, atI_nat (j := 0) rfl, ?_⟩
    have e0 : ∀ (b : Prop) [Decidable b], (w0 = [112, 111, 115, 116, 115] ∧ postsE (.tuple (dWs ws)) = none ↔ b) → ∀ H', Same H3 H' → Q (if b then .ref t else .non) H' := fun b _ hb H' s' => by
      refine q _ _ (s03.trans s') ?_
      unfold ppD
      rw [ew]
      dsimp only
      by_cases z : b
      · rw [if_pos z, if_pos (hb.mpr z)]
        exact (TupK.of s').dp _ _ (to_ws ws) hD
      · rw [if_neg z, if_neg (fun y => z (hb.mp y))]
        exact .non
    have q1 : w0 = [112, 111, 115, 116, 115] → postsE (.tuple (dWs ws)) = none → ∀ H', Same H3 H' → Q (.ref t) H' := fun h1 h2 H' s' => e0 True ⟨fun _ => trivial, fun _ => ⟨h1, h2⟩⟩ H' s'
    have q0 : ¬ (w0 = [112, 111, 115, 116, 115] ∧ postsE (.tuple (dWs ws)) = none) → ∀ H', Same H3 H' → Q .non H' := fun h H' s' => e0 False ⟨fun z => h z, fun z => z.elim⟩ H' s'
    by_cases z : w0 = [112, 111, 115, 116, 115]
    · have hz : decide (V.str (S w0) = V.str (Str.ofString "posts")) = true := decide_eq_true (by rw [z]; rfl)
      refine ⟨rfl, _, rfl, ?_⟩
      rw [hz]
      refine iteF ?_
      refine ⟨.ref t, rfl, t, t, .ref t, _, rfl, Dq.of_dp (to_ws ws) hD, fun H4 x s4 hx => ?_⟩
      cases e : postsE (.tuple (dWs ws)) with
      | none =>
        rw [e] at hx
        cases hx
        refine ⟨_, rfl, ?_⟩
        dsimp only
        rw [decide_eq_true rfl]
        exact ⟨.ref t, rfl, q1 z e _ s4⟩
      | some er =>
        rw [e] at hx
        obtain ⟨pth, sx, rfl⟩ := postsE_err e
        obtain ⟨ea, rfl⟩ := err_ref hx
        refine ⟨_, rfl, ?_⟩
        dsimp only
        rw [decide_eq_false (fun y => by cases y)]
        exact q0 (fun y => by rw [e] at y; cases y.2) _ s4
    · have hz : decide (V.str (S w0) = V.str (Str.ofString "posts")) = false := decide_eq_false fun h => z (S_inj (V.str.inj h))
      refine ⟨rfl, _, rfl, ?_⟩
      rw [hz]
      exact q0 (fun y => z y.1) _ (Same.refl _)
def spPg (K : PySem.W.Frag) : Sp := fun vs H Q _ => ∃ (a : List Nat) (n : Nat), vs = [.str (S a), .int n] ∧ a.length ≤ 90000 ∧ n ≤ 50 ∧ ∀ H' x, Same H H' → Dp K H' x (pgD n a) → Q x H'
set_option maxHeartbeats 4000000 in
theorem ok_Pg {f fPs fPn fGe : Addr} {fd fdPs fdPn fdGe : FuncData} (F : Fun K "parse_group" "parse_group" sPg f fd)
    (FPs : Fun K "parse_numbers" "parse_numbers" sPs fPs fdPs) (bPs : Binds K fdPs ["words"] []) (gPs : mg "parse_numbers" = some (.ref fPs)) (GPs : FnOk P w K mg base CX0 2 fPs fdPs ["words"] (spPs K))
    (FPn : Fun K "parse_number" "parse_number" sPn fPn fdPn) (bPn : Binds K fdPn ["text", "digits"] []) (gPn : mg "parse_number" = some (.ref fPn)) (GPn : FnOk P w K mg base CX0 1 fPn fdPn ["text", "digits"] (spPn K))
    (FGe : Fun K "groups_error" "groups_error" sGErr fGe fdGe) (bGe : Binds K fdGe ["groups", "post_count"] []) (gGe : mg "groups_error" = some (.ref fGe)) (GGe : FnOk P w K mg base CX0 5 fGe fdGe ["groups", "post_count"] (spGErr K))
    {uLONGEST : Value} (vLONGEST : mg "LONGEST" = some uLONGEST) (rLONGEST : RelV (.int 30) uLONGEST)
     :
    FnOk P w K mg base CX0 6 f fd ["line", "post_count"] (spPg K) := by
  refine F.ok scPg (fun vs H Q E h => ?_) (fun cdv A outer s H vs Q E hr h => ?_)
  · obtain ⟨a, n, rfl, _⟩ := h; rfl
  · obtain ⟨a, n, rfl, hl, hn, q⟩ := h
    refine ⟨_, pss_cons (ps_set (i := 2) scPg.nd rfl (.inl rfl) (pe_m1 PySem.F.slot_str_split PySem.F.type_str_split mt_splitQ (pv 0) (pe_str)))
      (pss_cons (ps_set (i := 3) scPg.nd rfl (.inl rfl) (pe_ix ix_list (pv 2) (pe_int) (fun _ _ => rfl)))
      (pss_cons (ps_if (pt_not (pt_val (pe_m1 PySem.F.slot_str_endswith PySem.F.type_str_endswith mt_endswithQ (pv 3) (pe_str))))
        (pss_one (ps_ret (pe_non))) pss_nil)
      (pss_cons (ps_set (i := 4) scPg.nd rfl (.inl rfl) (pe_tup (pa_cons (pe_call GPs (hr.mono (by omega)) (by rfl) gPs FPs.kp bPs .nil pass0 (pa_cons (pe_slice sl_list (pv 2) (po_some (pe_int)) po_none) pa_nil)) (pa_cons (pe_call GPn (hr.mono (by omega)) (by rfl) gPn FPn.kp bPn .nil pass0 (pa_cons (pe_slice C8.sl_txt (pv 3) po_none (po_some (pe_un un_neg (pe_int)))) (pa_cons (pe_glob (by rfl) vLONGEST rLONGEST) pa_nil))) pa_nil))))
      (pss_one (ps_ret (pe_ifExp (pt_cmp (pc_isN (pe_call GGe (hr.mono (by omega)) (by rfl) gGe FGe.kp bGe .nil pass0 (pa_cons (pe_tup (pa_cons (pv 4) pa_nil)) (pa_cons (pv 1) pa_nil))))) (pv 4) (pe_non))))))), ?_⟩
    have hl6 : (S a).length + 2 ≤ sizeLine := by rw [S_len]; exact small6 (by omega)
    refine ⟨.str (S a), rfl, ⟨_, rfl⟩, _, _, rfl, rfl, rfl, hl6, fun p np => ?_⟩
    rw [show Str.ofString " " = S [32] from rfl, split_wds (by decide)]
    obtain ⟨w0, ws, ew⟩ := wds_cons 32 a
    have wl := wds_len 32 a
    have we : ∀ w ∈ ws, w.length ≤ 100000 := fun w hw => by have := wds_each (c := 32) (a := a) (w := w) (by rw [ew]; exact List.mem_cons_of_mem _ hw); omega
    have w0l : w0.length ≤ 90000 := by have := wds_each (c := 32) (a := a) (w := w0) (by rw [ew]; exact List.mem_cons_self ..); omega
    rw [ew, List.length_cons] at wl
    rw [ew]
    have s1 := sameNew (o := .lst (((w0 :: ws).map S).map V.str)) np
    have e0 : ∀ (b : Prop) [Decidable b], (w0.getLast? = some 58 ∧ groupsE n (.tuple [gD w0 ws]) = none ↔ b) → ∀ H' x, Same H H' → Dp K H' x (if b then gD w0 ws else .none) → Q x H' := fun b _ hb H' x s' hx => by
      refine q _ _ s' ?_
      unfold pgD
      rw [ew]
      dsimp only
      by_cases z : b
      · rw [if_pos z] at hx
        rw [if_pos (hb.mpr z)]
        exact hx
      · rw [if_neg z] at hx
        rw [if_neg (fun y => z (hb.mp y))]
        exact hx
    refine ⟨.ref p, rfl, p, _, 0, .str (S w0), rfl, rfl, SqL.of upd_same, atI_nat (j := 0) rfl, ?_⟩
    refine ⟨.str (S w0), rfl, ⟨_, rfl⟩, _, _, rfl, rfl, _, rfl, ?_⟩
    rw [show Str.ofString ":" = S [58] from rfl, ends_last]
    by_cases z : w0.getLast? = some 58
    · rw [decide_eq_true z]
      refine iteF ?_
      have hne : w0 ≠ [] := fun y => by rw [y] at z; cases z
      refine ⟨.ref p, rfl, 1, rfl, slLt (SqL.of upd_same) fun p2 np2 => ?_⟩
      rw [cut_tail1]
      have s2 := s1.trans (sameNew (o := .lst ((((w0 :: ws).map S).map V.str).drop 1)) np2)
      refine ⟨p2, ws, rfl, SqL.of upd_same, by omega, we, fun H3 t s3 ht => ?_⟩
      have s03 := s2.trans s3
      have hD : Dp K H3 (.ref t) (.tuple (dWs ws)) := .tup (.inl (.inl ht)) (dp_ws ws)
      refine ⟨.str (S w0), rfl, 1, rfl, -1, rfl, S w0, rfl, by rw [S_len]; exact small6 (by omega), ?_⟩
      rw [slice_drop hne]
      refine ⟨w0.dropLast, rfl, by rw [List.length_dropLast]; omega, ?_⟩
      refine ⟨(show (2 : Nat) ≤ sizeLine by decide), fun gA nG => ?_⟩
      have sG := sameNew (o := .tup [.ref t, oV (pnO w0.dropLast)]) nG
      have hG : Dp K (upd H3 gA (.tup [.ref t, oV (pnO w0.dropLast)])) (.ref gA) (gD w0 ws) := .tup (.inl (.inl upd_same)) (.cons ((TupK.of sG).dp _ _ (to_ws ws) hD) (.cons (oV_oD _) .nil))
      have tG : tupOnly (gD w0 ws) = true := to_pair _ _ (to_ws ws) (to_oD _)
      refine ⟨.ref gA, rfl, (show (1 : Nat) ≤ sizeLine by decide), fun g2 n2 => ?_⟩
      have s2' := sameNew (o := .tup [.ref gA]) n2
      have hG2 := (TupK.of s2').dp _ _ tG hG
      refine ⟨.int n, rfl, t, t, .ref g2, .tuple [gD w0 ws], n, rfl, Dq.of_dp (to_one _ tG) (.tup (.inl (.inl upd_same)) (.cons hG2 .nil)), hn, fun H5 x s5 hx => ?_⟩
      have s05 := (s03.trans sG).trans (s2'.trans s5)
      cases e : groupsE n (.tuple [gD w0 ws]) with
      | none =>
        rw [e] at hx
        cases hx
        refine ⟨_, rfl, ?_⟩
        dsimp only
        rw [decide_eq_true rfl]
        exact ⟨.ref gA, rfl, e0 True ⟨fun _ => trivial, fun _ => ⟨z, e⟩⟩ _ _ s05 (by rw [if_pos trivial]; exact (TupK.of s5).dp _ _ tG hG2)⟩
      | some er =>
        rw [e] at hx
        obtain ⟨pth, sx, rfl⟩ := groupsE_err e
        obtain ⟨ea, rfl⟩ := err_ref hx
        refine ⟨_, rfl, ?_⟩
        dsimp only
        rw [decide_eq_false (fun y => by cases y)]
        exact e0 False ⟨fun y => (by rw [e] at y; cases y.2), fun y => y.elim⟩ _ _ s05 .non
    · rw [decide_eq_false z]
      exact e0 False ⟨fun y => z y.1, fun y => y.elim⟩ _ _ s1 .non
end
end Pv

namespace Pv
open PySem PySem.Spec PyProof.Rows L2
/-! errors of the program's own classes -/
abbrev VEbm : List Value := [.type "ValueError", .type "Exception", .type "BaseException", .type "object"]
theorem pmk_own0 {X : Cx} {C : Addr} {bmB : List Value} {B newId initId : String} {x : Str} {p pos : Pos} (F : ExcBaseFacts B newId initId bmB) (q : PySem.W.excIn X.K C bmB newId = true) (gC : X.mg x = some (.ref C))
    (kC : PySem.W.keepIn X.K (.ref C) = true) (r : Raises X (.ref C)) (hg : Gl X x) (hdb : (x == ("__debug__" : Str)) = false := by decide) :
    PMk X (.Call (.Name x p) [] [] pos) (fun _ H Q => Q (.ref C) none H) := by
  intro pins s σ H Q I h
  refine wpAny_Call_Name_kw (ld_glob I hg gC ?_ hdb)
  refine PySem.W.callWith_K0 I.kIn kC ?_
  obtain ⟨bm, N, nm, qn, bs, hdct, sn, sub, ab, col, dd, k0, k1, k2, k3, k5, mN, hC, hN, hni, T⟩ := exc_obj I.kIn q
  show wpAny _ _ (call (.ref C) []) _ _ _
  refine wpAny_call_exc_subT F T hC hN hni (fun h' e hm => ?_) (Nat.zero_le _)
  exact mk_of I hm r h (I.hok.gone hm.new)
/-- what is asked of a class whose errors isinstance is asked of -/
structure IsC (K : PySem.W.Frag) (D : Addr) : Prop where
  cl : (PySem.W.clsIn K D).isSome = true
  hg : PySem.W.findIn K (.ref D) "__getattribute__" = some (some (.builtin "BaseException.__getattribute__"))
  hk : PySem.W.findIn K (.ref D) "__getattr__" = some none
  hs : PySem.W.subIn K (.ref D) (.type "BaseException") = some true
  ty : PySem.W.typeIn K (.ref D) = some (.type "type")
  ha : PySem.W.findIn K (.ref D) "__class__" = some (some (.builtin "object.__class__"))
  hn : PySem.W.specialIn K (.builtin "object.__class__") "__get__" = some (some (.builtin "getset_descriptor.__get__"))
  ht : PySem.W.takesIn K (.builtin "object.__class__") = some true
  hm : PySem.W.mroIn K D (.type "object") = some true
  kp : PySem.W.keepIn K (.ref D) = true
def isCB (K : PySem.W.Frag) (D : Addr) : Bool :=
  (PySem.W.clsIn K D).isSome && (decide (PySem.W.findIn K (.ref D) "__getattribute__" = some (some (.builtin "BaseException.__getattribute__"))) && (decide (PySem.W.findIn K (.ref D) "__getattr__" = some none) &&
  (decide (PySem.W.subIn K (.ref D) (.type "BaseException") = some true) && (decide (PySem.W.typeIn K (.ref D) = some (.type "type")) && (decide (PySem.W.findIn K (.ref D) "__class__" = some (some (.builtin "object.__class__"))) &&
  (decide (PySem.W.specialIn K (.builtin "object.__class__") "__get__" = some (some (.builtin "getset_descriptor.__get__"))) && (decide (PySem.W.takesIn K (.builtin "object.__class__") = some true) &&
  (decide (PySem.W.mroIn K D (.type "object") = some true) && PySem.W.keepIn K (.ref D)))))))))
theorem isCB_ok {K : PySem.W.Frag} {D : Addr} (h : isCB K D = true) : IsC K D := by
  simp only [isCB, Bool.and_eq_true, decide_eq_true_eq] at h
  obtain ⟨h1, h2, h3, h4, h5, h6, h7, h8, h9, h10⟩ := h
  exact ⟨h1, h2, h3, h4, h5, h6, h7, h8, h9, h10⟩
theorem IsC.raises {X : Cx} {D : Addr} (c : IsC X.K D) : Raises X (.ref D) := raises_own c.hs c.ty
/-- isinstance(e, c), e the error that the suite holds, c a class or a tuple of classes -/
def rIsX (K : PySem.W.Frag) (a : Addr) (cls : Value) (d : Option Addr) : RC := fun xs H Q => ∃ (D : Addr) (c : V) (b : Bool), cls = .ref D ∧ IsC K D ∧ (∀ dx, d = some dx → ∃ fs, H dx = some (.xd fs)) ∧ xs = [.ref a, c] ∧
  ((∃ u, ClsV c u ∧ PySem.W.kitOne K (.ref D) u = some b) ∨ ∃ (tp : Addr) (cs : List V) (us : List Value), c = .ref tp ∧ H tp = some (.tup cs) ∧ Paired ClsV cs us ∧ PySem.W.kitAny K (.ref D) us = some b) ∧ Q (.bl b) H
theorem call_isX {X : Cx} {a : Addr} {oe : Obj} {cls : Value} {d : Option Addr} {pn : List (Addr × Obj)} (hz : Zc cls d oe) (hf : ∃ vs, oe.data = .fields vs) : CallR (X.suite a ((a, oe) :: pn)) (.builtin "isinstance") (rIsX X.K a cls d) := by
  intro pins s σ H xs us Q I r h
  obtain ⟨D, c, b, rfl, C, hdx, rfl, hc, q⟩ := h
  obtain ⟨u1, u2, rfl, r1, r2⟩ := vals2 r
  cases (show u1 = Value.ref a from r1)
  obtain ⟨hget, _⟩ := I.pin (a, oe) (List.mem_append.mpr (.inl List.mem_cons_self))
  obtain ⟨vs, hv⟩ := hf
  have J : ∃ od, PySem.W.InstAt s.heap a oe D od := by
    cases d with
    | none =>
      refine ⟨none, hget, hz.1, by unfold PySem.W.notCls; rw [hv] <;> rfl, ?_⟩
      rw [hz.2]; trivial
    | some dx =>
      obtain ⟨fs, e⟩ := hdx dx rfl
      have hx : ObjOk X.prog X.w H s.heap dx (.xd fs) := I.hok dx _ e
      obtain ⟨mA, hns, _⟩ := hx
      obtain ⟨od, ho, _⟩ := lookIn_ns hns
      exact ⟨some od, hget, hz.1, by unfold PySem.W.notCls; rw [hv] <;> rfl, by rw [hz.2]; exact ho⟩
  obtain ⟨od, J⟩ := J
  have Z := PySem.W.kitx_exc (K := X.K) (x := a) (C := D) (ox := oe) (od := od) C.cl C.hg C.hk C.hs C.ha C.hn C.ht C.hm
  rcases hc with ⟨u, ku, e⟩ | ⟨tp, cs, ws, rfl, hT, ks, e⟩
  · have e2 := ku.eq r2
    subst e2
    exact PySem.W.kia_one Z I.kIn J e (fun z => nomatch z) fun tk => ⟨.bl b, H, I.kept (t' := tk) fun _ _ z => z, rfl, q⟩
  · cases (show u2 = Value.ref tp from r2)
    obtain ⟨_, its, rv, o, h1, h2, n, h3⟩ := (show ObjOk X.prog X.w H s.heap tp (.tup cs) from I.hok tp _ hT)
    have e3 := ClsV.all ks rv
    subst e3
    obtain ⟨oc, od', dt, sl⟩ := o
    simp only at h2 h3
    subst h2 h3
    exact PySem.W.kia_tup Z I.kIn J h1 e (fun z => nomatch z) fun tk => ⟨.bl b, H, I.kept (t' := tk) fun _ _ z => z, rfl, q⟩
end Pv

namespace Pv
open PySem PySem.Spec PyProof.Rows L2
/-! an error with one field of its own -/
def inCls (st : Stmt) (i : Nat) : Stmt := match st with
  | .ClassDef _ _ _ body _ _ _ _ _ _ _ => body.getD i (.Pass ⟨0, 0, 0, 0⟩)
  | _ => .Pass ⟨0, 0, 0, 0⟩
def spI1 (C : Addr) (fld : Str) : Sp := fun vs H Q _ => ∃ (a : Addr) (v : V), vs = [.ref a, v] ∧ H a = some (exo a C none) ∧ ∀ dx, H dx = none → dx ≠ a → Q .non (upd (upd H dx (exd dx [(fld, v)])) a (exo a C (some dx)))
theorem mkO1 {C : Addr} {fld : Str} {v : V} {H1 : Hp} {Q : XK} (h : ∀ d, H1 d = none → Q (.ref C) (some d) (upd H1 d (.xd [(fld, v)]))) :
    [v].length ≤ 1000 ∧ ∀ a, H1 a = none → spI1 C fld (.ref a :: ([v] ++ [])) (upd H1 a (exo a C none))
      (fun v' H2 => v' = .non ∧ ∃ (d : Addr) (fs : List (Str × V)), H2 a = some (exo a C (some d)) ∧ H2 d = some (exd d fs) ∧ H1 d = none ∧ Q (.ref C) (some d) (upd (del H2 a) d (.xd fs))) (fun _ _ _ => False) := by
  refine ⟨by simp, fun a na => ⟨a, v, rfl, upd_same, fun dx nd ne => ⟨rfl, dx, [(fld, v)], upd_same, ?_, ?_, ?_⟩⟩⟩
  · rw [upd_ne ne]; exact upd_same
  · rw [upd_ne ne] at nd; exact nd
  · have nd1 : H1 dx = none := by rw [upd_ne ne] at nd; exact nd
    have e : upd (del (upd (upd (upd H1 a (exo a C none)) dx (exd dx [(fld, v)])) a (exo a C (some dx))) a) dx (.xd [(fld, v)]) = upd H1 dx (.xd [(fld, v)]) := by
      funext b
      by_cases hb : b = dx
      · rw [hb, upd_same, upd_same]
      · rw [upd_ne hb, upd_ne hb]
        by_cases ha : b = a
        · rw [ha, del_same, na]
        · rw [del_ne ha, upd_ne ha, upd_ne hb, upd_ne ha]
    rw [e]
    exact h dx nd1
/-- what the written part says of such a class -/
structure XF (K : PySem.W.Frag) (C fI : Addr) (fld : Str) : Prop where
  T : OexC K C
  iC : PySem.W.findIn K (.ref C) "__init__" = some (some (.ref fI))
  tI : PySem.W.typeIn K (.ref fI) = some (.type "function")
  no : PySem.W.findIn K (.ref C) fld = some none
  rd : XfC K C
def xf1B (K : PySem.W.Frag) (C fI : Addr) (fld : Str) : Bool :=
  decide (PySem.W.findIn K (.ref C) "__setattr__" = some (some (.builtin "object.__setattr__"))) && (decide (PySem.W.subIn K (.ref C) (.type "BaseException") = some true) && (decide (PySem.W.typeIn K (.ref C) = some (.type "type")) && (PySem.W.keepIn K (.ref C) &&
  (decide (PySem.W.findIn K (.ref C) "__init__" = some (some (.ref fI))) && (decide (PySem.W.typeIn K (.ref fI) = some (.type "function")) && (decide (PySem.W.findIn K (.ref C) fld = some none) && xfB K C))))))
theorem xf1B_ok {K : PySem.W.Frag} {C fI : Addr} {fld : Str} (h : xf1B K C fI fld = true) (c : ∃ nm q N bs bm sn sub ab col dd k0 k1 k2 k3 k5, K.lookup C = some (excClassObj nm q C N bs bm true sn sub ab col dd k0 k1 k2 k3 k5 "ValueError.__new__") ∧ PySem.HandSPX.refsVE bm = true) : XF K C fI fld := by
  simp only [xf1B, Bool.and_eq_true, decide_eq_true_eq] at h
  obtain ⟨h1, h2, h3, h4, h5, h6, h7, h8⟩ := h
  exact ⟨⟨c, h1, h2, h3, h4⟩, h5, h6, h7, xfB_ok h8⟩
end Pv

namespace Pv
open PySem PySem.Spec PyProof.Rows L2 SX
abbrev sPi : Stmt := topS 21
theorem scPi : FnScope ["text", "lines", "posts", "groups", "index", "group"] ["text"] (defScope sPi) := ⟨rfl, rfl, rfl, by decide +kernel, rfl, by decide +kernel, by decide +kernel⟩
def isStrD : PyData → Bool
  | .str _ => true
  | _ => false
theorem kit_strD {K : PySem.W.Frag} (d : PyData) : PySem.W.kitOne K (.type (tyN d)) (.type "str") = some (isStrD d) := by
  cases d with
  | none => exact kit_ty (b := "str") (r := false) (by decide +kernel)
  | bool _ => exact kit_ty (a := "bool") (b := "str") (r := false) (by decide +kernel)
  | int _ => exact kit_ty (a := "int") (b := "str") (r := false) (by decide +kernel)
  | str _ => exact kit_ty (a := "str") (b := "str") (r := true) (by decide +kernel)
  | list _ => exact kit_ty (a := "list") (b := "str") (r := false) (by decide +kernel)
  | tuple _ => exact kit_ty (a := "tuple") (b := "str") (r := false) (by decide +kernel)
  | dict _ => exact kit_ty (a := "dict") (b := "str") (r := false) (by decide +kernel)
theorem S_of (z : Str) : S z.cps.toList = z := by cases z; simp [S]
def isNd : PyData → Bool
  | .none => true
  | _ => false
def lenD : PyData → Nat
  | .tuple ds => ds.length
  | _ => 0
def piG (n : Nat) : Nat → List (List Nat) → Sum Nat (List PyData)
  | _, [] => .inr []
  | k, l :: ls => if isNd (pgD n l) = true ∨ 10 < k then .inl k else match piG n (k + 1) ls with
    | .inl j => .inl j
    | .inr gs => .inr (pgD n l :: gs)
theorem piG_ok {n : Nat} : ∀ {ls : List (List Nat)} {k : Nat}, (∀ i l, ls[i]? = some l → isNd (pgD n l) = false ∧ k + i ≤ 10) → piG n k ls = .inr (ls.map (pgD n))
  | [], _, _ => rfl
  | l :: ls, k, h => by
    have h0 := h 0 l rfl
    have h1 := piG_ok (n := n) (ls := ls) (k := k + 1) (fun i m hm => by have := h (i + 1) m (by simpa using hm); exact ⟨this.1, by omega⟩)
    unfold piG
    rw [if_neg (fun y => y.elim (fun z => by rw [h0.1] at z; cases z) (fun z => by omega)), h1]
    rfl
theorem piG_bad {n : Nat} : ∀ {ls : List (List Nat)} {k j : Nat} {l : List Nat}, (∀ i l, i < j → ls[i]? = some l → isNd (pgD n l) = false ∧ k + i ≤ 10) → ls[j]? = some l → (isNd (pgD n l) = true ∨ 10 < k + j) → piG n k ls = .inl (k + j)
  | [], _, _, _, _, e, _ => by simp at e
  | m :: ls, k, 0, l, _, e, h => by
    simp at e
    subst e
    unfold piG
    rw [if_pos (show isNd (pgD n m) = true ∨ 10 < k from h)]; rfl
  | m :: ls, k, j + 1, l, hp, e, h => by
    have h0 := hp 0 m (by omega) rfl
    have h1 := piG_bad (n := n) (ls := ls) (k := k + 1) (j := j) (l := l) (fun i x hi hx => by have := hp (i + 1) x (by omega) (by simpa using hx); exact ⟨this.1, by omega⟩) (by simpa using e) (h.imp id fun z => by omega)
    unfold piG
    rw [if_neg (fun y => y.elim (fun z => by rw [h0.1] at z; cases z) (fun z => by omega)), h1]
    show Sum.inl _ = _
    congr 1
    omega
def piT (a : List Nat) : Sum (Option Int) PyData := match wds 10 a with
  | [] => .inl none
  | l0 :: ls => if isNd (ppD l0) = true then .inl (some 0) else match piG (lenD (ppD l0)) 1 ls with
    | .inl k => .inl (some (k : Int))
    | .inr gs => if gs = [] then .inl (some 1) else .inr (.tuple [ppD l0, .tuple gs])
def piR : PyData → Sum (Option Int) PyData
  | .str z => piT z.cps.toList
  | _ => .inl none
theorem ppD_cases (a : List Nat) : (ppD a = .none) ∨ ∃ ds, ppD a = .tuple ds ∧ ds.length ≤ 6 ∧ tupOnly (.tuple ds) = true := by
  unfold ppD
  split
  · exact .inl rfl
  · rename_i w0 ws ew
    by_cases z : w0 = [112, 111, 115, 116, 115] ∧ postsE (.tuple (dWs ws)) = none
    · rw [if_pos z]
      obtain ⟨ds, e, _, h6⟩ := postsE_ok z.2
      cases e
      exact .inr ⟨_, rfl, h6, to_ws ws⟩
    · rw [if_neg z]; exact .inl rfl
theorem pgD_cases (n : Nat) (a : List Nat) : (pgD n a = .none) ∨ ∃ ds, pgD n a = .tuple ds ∧ tupOnly (.tuple ds) = true := by
  unfold pgD
  split
  · exact .inl rfl
  · rename_i w0 ws ew
    by_cases z : w0.getLast? = some 58 ∧ groupsE n (.tuple [gD w0 ws]) = none
    · rw [if_pos z]
      exact .inr ⟨_, rfl, to_pair _ _ (to_ws ws) (to_oD _)⟩
    · rw [if_neg z]; exact .inl rfl
theorem to_pg (n : Nat) (a : List Nat) : tupOnly (pgD n a) = true := by
  rcases pgD_cases n a with e | ⟨ds, e, h⟩
  · rw [e]; rfl
  · rw [e]; exact h
theorem to_pgs (n : Nat) (ls : List (List Nat)) : tupOnlyAll (ls.map (pgD n)) = true := tupOnlyAll_of fun d hd => by
  obtain ⟨l, _, rfl⟩ := List.mem_map.mp hd
  exact to_pg n l
section
variable {P : Program} {w : World} {K : PySem.W.Frag} {mg : Str → Option Value} {base : Heap}
def spPi (K : PySem.W.Frag) (C : Addr) : Sp := fun vs H Q E => ∃ (st r : Addr) (v : V) (d : PyData), vs = [v] ∧ Dq K st r H v d ∧ (∀ a, d = .str (S a) → a.length ≤ 80000) ∧ (∀ e, piR d = .inr e → ∀ H' x, Same H H' → Dp K H' x e → Q x H') ∧
  (∀ o, piR d = .inl o → ∀ H' dx, Same H H' → H' dx = none → E (.ref C) (some dx) (upd H' dx (.xd [("index", oV o)])))
set_option maxHeartbeats 4000000 in
theorem ok_Pi {f fPp fPg : Addr} {fd fdPp fdPg : FuncData} (F : Fun K "parse_instance" "parse_instance" sPi f fd)
    (FPp : Fun K "parse_posts" "parse_posts" sPp fPp fdPp) (bPp : Binds K fdPp ["line"] []) (gPp : mg "parse_posts" = some (.ref fPp)) (GPp : FnOk P w K mg base CX0 6 fPp fdPp ["line"] (spPp K))
    (FPg : Fun K "parse_group" "parse_group" sPg fPg fdPg) (bPg : Binds K fdPg ["line", "post_count"] []) (gPg : mg "parse_group" = some (.ref fPg)) (GPg : FnOk P w K mg base CX0 6 fPg fdPg ["line", "post_count"] (spPg K))
    {cBT : Addr} {fiBT : Addr} {fdiBT : FuncData} (gBT : mg "BadText" = some (.ref cBT)) (XBT : XF K cBT fiBT "index") (GiBT : FnOk P w K mg base CX0 1 fiBT fdiBT ["self", "index"] (spI1 cBT "index")) (biBT : Binds K fdiBT ["self", "index"] [])
    {uGROUPS : Value} (vGROUPS : mg "GROUPS" = some uGROUPS) (rGROUPS : RelV (.int 10) uGROUPS)
    (m_str : mg "str" = none) (m_isinstance : mg "isinstance" = none) (m_len : mg "len" = none) (m_range : mg "range" = none) (m_tuple : mg "tuple" = none) :
    FnOk P w K mg base (L2.CX P w) 7 f fd ["text"] (spPi K cBT) := by
  refine F.okX scPi (fun vs H Q E h => ?_) (fun cdv A outer s H vs Q E hr h => ?_)
  · obtain ⟨st, r, v, d, rfl, _⟩ := h; rfl
  · obtain ⟨st, r, v, d, rfl, hv, hsz, q⟩ := h
    refine ⟨_, pss_cons (ps_if (pt_not (pt_val (pe_callB call_isi (by rfl) m_isinstance (by decide +kernel) (pa_cons (pv 0) (pa_cons (pe_bltn (v := .ty "str") (by rfl) m_str (by decide +kernel) rfl) pa_nil)))))
        (pss_one (ps_raise rfl (takes_of rfl rfl rfl rfl) (pmk_oex XBT.T XBT.iC XBT.tI GiBT (hr.mono (by omega)) biBT .nil pass0 (by rfl) gBT (pa_cons (pe_non) pa_nil)))) pss_nil)
      (pss_cons (ps_set (i := 1) scPi.nd rfl (.inl rfl) (pe_m1 PySem.F.slot_str_split PySem.F.type_str_split mt_splitQ (pv 0) (pe_str)))
      (pss_cons (ps_set (i := 2) scPi.nd rfl (.inl rfl) (pe_call GPp (hr.mono (by omega)) (by rfl) gPp FPp.kp bPp .nil pass0 (pa_cons (pe_ix ix_list (pv 1) (pe_int) (fun _ _ => rfl)) pa_nil)))
      (pss_cons (ps_if (pt_cmp (pc_isN (pv 2)))
        (pss_one (ps_raise rfl (takes_of rfl rfl rfl rfl) (pmk_oex XBT.T XBT.iC XBT.tI GiBT (hr.mono (by omega)) biBT .nil pass0 (by rfl) gBT (pa_cons (pe_int) pa_nil)))) pss_nil)
      (pss_cons (ps_set (i := 3) scPi.nd rfl (.inl rfl) (pe_lst (pa_nil)))
      (pss_cons (ps_for (passes_of rfl) rfl (pi_range2 (by rfl) m_range (pa_cons (pe_int) (pa_cons (pe_callB call_lenQ (by rfl) m_len PySem.boot_len (pa_cons (pv 1) pa_nil)) pa_nil))) (pg_name (i := 4) scPi.nd rfl (.inl rfl))
        (pss_cons (ps_set (i := 5) scPi.nd rfl (.inl rfl) (pe_call GPg (hr.mono (by omega)) (by rfl) gPg FPg.kp bPg .nil pass0 (pa_cons (pe_ix ix_list (pv 1) (pv 4) (fun _ _ => rfl)) (pa_cons (pe_callB call_lenQ (by rfl) m_len PySem.boot_len (pa_cons (pv 2) pa_nil)) pa_nil))))
        (pss_cons (ps_if (PW.pt (pw_or (pt_cmp (pc_isN (pv 5))) (pw_or1 (pt_cmpR op_gt (pv 4) (pe_glob (by rfl) vGROUPS rGROUPS) (nomark _)))))
          (pss_one (ps_raise rfl (takes_of rfl rfl rfl rfl) (pmk_oex XBT.T XBT.iC XBT.tI GiBT (hr.mono (by omega)) biBT .nil pass0 (by rfl) gBT (pa_cons (pv 4) pa_nil)))) pss_nil)
        (pss_one (ps_expr (pe_bm PySem.F.plainAttrs_list PySem.F.slot_list_append PySem.F.type_list_append mt_append (pv 3) (pa_cons (pv 5) pa_nil)))))))
      (pss_cons (ps_if (pt_cmpR op_eq (pe_callB call_lenQ (by rfl) m_len PySem.boot_len (pa_cons (pv 3) pa_nil)) (pe_int) (nomark _))
        (pss_one (ps_raise rfl (takes_of rfl rfl rfl rfl) (pmk_oex XBT.T XBT.iC XBT.tI GiBT (hr.mono (by omega)) biBT .nil pass0 (by rfl) gBT (pa_cons (pe_callB call_lenQ (by rfl) m_len PySem.boot_len (pa_cons (pv 1) pa_nil)) pa_nil)))) pss_nil)
      (pss_one (ps_ret (pe_tup (pa_cons (pv 2) (pa_cons (pe_callTy call_tupQ (by rfl) m_tuple (by decide +kernel) (pa_cons (pv 3) pa_nil)) pa_nil))))))))))), ?_⟩
    obtain ⟨q1, q2⟩ := q
    refine ⟨v, rfl, v, .ty "str", _, _, _, rfl, .ty _, hv.ty, kit_strD d, _, rfl, ?_⟩
    cases hd : isStrD d with
    | false =>
      refine iteT (mkO1 fun dx nd => ?_)
      exact q2 none (by cases d <;> first | rfl | cases hd) _ dx (Same.refl _) nd
    | true =>
      refine iteF ?_
      cases d with
      | str z => ?_
      | _ => cases hd
      cases hv
      obtain ⟨a, rfl⟩ : ∃ a, z = S a := ⟨_, (S_of z).symm⟩
      have hsz : a.length ≤ 80000 := hsz a rfl
      have hl6 : (S a).length + 2 ≤ sizeLine := by rw [S_len]; exact small6 (by omega)
      refine ⟨.str (S a), rfl, ⟨_, rfl⟩, _, _, rfl, rfl, rfl, hl6, fun p np => ?_⟩
      rw [show Str.ofString "\n" = S [10] from rfl, split_wds (by decide)]
      obtain ⟨l0, ls, el⟩ := wds_cons 10 a
      have wl := wds_len 10 a
      have we : ∀ w ∈ l0 :: ls, w.length ≤ 80000 := fun w hw => by have := wds_each (c := 10) (a := a) (w := w) (by rw [el]; exact hw); omega
      rw [el, List.length_cons] at wl
      have eR : piR (.str (S a)) = piT a := rfl
      unfold piT at eR
      rw [el] at eR ⊢
      dsimp only at eR
      have s1 := sameNew (o := .lst (((l0 :: ls).map S).map V.str)) np
      refine ⟨.ref p, rfl, p, _, 0, .str (S l0), rfl, rfl, SqL.of upd_same, atI_nat (j := 0) rfl, ?_⟩
      refine ⟨l0, rfl, by have := we l0 (List.mem_cons_self ..); omega, fun H2 x s2 hx => ?_⟩
      have s02 := s1.trans s2
      have hp2 : H2 p = some (.lst (((l0 :: ls).map S).map V.str)) := s2 _ _ upd_same
      rcases ppD_cases l0 with ep | ⟨ds, ep, h6, tds⟩
      · rw [ep] at hx eR
        cases hx
        refine ⟨.non, rfl, _, rfl, ?_⟩
        rw [decide_eq_true rfl]
        refine iteT (mkO1 fun dx nd => ?_)
        exact q2 (some 0) eR _ dx s02 nd
      rw [ep] at hx eR
      rw [if_neg (by rintro ⟨⟩)] at eR
      obtain ⟨tp, rfl⟩ : ∃ t, x = .ref t := by cases hx; exact ⟨_, rfl⟩
      refine ⟨.ref tp, rfl, _, rfl, ?_⟩
      rw [decide_eq_false (fun y => by cases y)]
      refine iteF ?_
      refine ⟨(show (0 : Nat) ≤ sizeLine by decide), fun Ls nLs => ?_⟩
      have s3 := s02.trans (sameNew (o := .lst []) nLs)
      have fLs := freeZ s02 nLs
      have sq2 : ∃ ys, SqT K H2 tp ys ∧ ys.length = ds.length := by
        cases hx with
        | tup h1 h2 => exact ⟨_, h1, DpAll.len h2⟩
      obtain ⟨ys, hys, ly⟩ := sq2
      have eL : ∀ H', Same H2 H' → H' p = some (.lst (((l0 :: ls).map S).map V.str)) := fun H' s' => s' _ _ hp2
      have el1 : ((((((l0 :: ls).map S).map V.str).length : Nat) : Int) - 1).toNat = ls.length := by simp
      refine ⟨.ref p, rfl, p, _, rfl, .inl (SqL.of (eL _ (sameNew nLs))), 1, _, rfl, ⟨by omega, by omega, by omega, by rw [List.length_map, List.length_map, List.length_cons]; omega⟩, for_it (walk_range (lo := 1) (n := ((((((l0 :: ls).map S).map V.str).length : Nat) : Int) - 1).toNat))
        (fun j σ H3 => ∃ (y4 y5 : Option V) (vs : List V), σ = [some (.str (S a)), some (.ref p), some (.ref tp), some (.ref Ls), y4, y5] ∧ Same H2 H3 ∧ H3 Ls = some (.lst vs) ∧ DpAll K H3 vs ((ls.take j).map (pgD ds.length)) ∧ ∀ i l, i < j → ls[i]? = some l → isNd (pgD ds.length l) = false ∧ 1 + i ≤ 10)
        ⟨none, none, [], rfl, sameNew nLs, upd_same, .nil, fun i l h => by omega⟩ (fun _ _ _ _ _ => trivial) ?_ ?_⟩
      · rintro j u σ H3 H4 hlt ⟨y4, y5, vs, rfl, s5, e5, hvs, hno⟩ ⟨rfl, rfl⟩
        rw [el1] at hlt
        have hlj : ls[j]? = some ls[j] := List.getElem?_eq_getElem hlt
        have e1 : (1 : Int) + (j : Nat) = ((1 + j : Nat) : Int) := by omega
        dsimp only
        rw [e1]
        have hpv : (((l0 :: ls).map S).map V.str)[1 + j]? = some (.str (S ls[j])) := by
          rw [List.getElem?_map, List.getElem?_map, show 1 + j = j + 1 by omega, List.getElem?_cons_succ, hlj]; rfl
        refine ⟨.ref p, rfl, .int ((1 + j : Nat) : Int), rfl, p, _, _, _, rfl, rfl, SqL.of (eL _ s5), atI_nat hpv, .ref tp, rfl, tp, _, rfl, .inr (sqS s5 hys), ls[j], ds.length, by rw [ly]; rfl, by have := we ls[j] (List.mem_cons_of_mem _ (List.getElem_mem hlt)); omega, by omega, fun H6 x s6 hx6 => ?_⟩
        have s26 := s5.trans s6
        have s06 := s02.trans s26
        rcases pgD_cases ds.length ls[j] with eg | ⟨es, eg, tes⟩
        · rw [eg] at hx6
          cases hx6
          refine ⟨.non, rfl, _, rfl, ?_⟩
          rw [decide_eq_true rfl]
          refine iteT ⟨.int ((1 + j : Nat) : Int), rfl, mkO1 fun dx nd => ?_⟩
          have eB := piG_bad (n := ds.length) (k := 1) hno hlj (.inl (by rw [eg]; rfl))
          rw [show lenD (.tuple ds) = ds.length from rfl, eB] at eR
          exact q2 (some ((1 + j : Nat) : Int)) eR _ dx s06 nd
        · have hxr : ∃ t, x = .ref t := by rw [eg] at hx6; cases hx6; exact ⟨_, rfl⟩
          obtain ⟨t6, rfl⟩ := hxr
          refine ⟨.ref t6, rfl, _, rfl, ?_⟩
          rw [decide_eq_false (fun y => by cases y)]
          refine iteF ⟨.int ((1 + j : Nat) : Int), rfl, _, _, rfl, rfl, _, rfl, ?_⟩
          refine ite2 (fun h1 => ?_) (fun h1 => ?_)
          · refine ⟨.int ((1 + j : Nat) : Int), rfl, mkO1 fun dx nd => ?_⟩
            have eB := piG_bad (n := ds.length) (k := 1) hno hlj (.inr (by have := of_decide_eq_true h1; omega))
            rw [show lenD (.tuple ds) = ds.length from rfl, eB] at eR
            exact q2 (some ((1 + j : Nat) : Int)) eR _ dx s06 nd
          · have h1 : 1 + j ≤ 10 := by
              by_cases y : 1 + j ≤ 10
              · exact y
              · exact absurd (decide_eq_true (by omega)) h1
            have e6 := s6 _ _ e5
            have lv := DpAll.len hvs
            rw [List.length_map, List.length_take] at lv
            refine ⟨.ref Ls, rfl, .inl ⟨rfl, _, SqL.of e6⟩, .ref t6, rfl, Ls, _, _, rfl, rfl, e6, small (by omega), ?_⟩
            have tk := (TupK.of s6).trans (TupK.put (o := .lst (vs ++ [.ref t6])) e6)
            refine ⟨_, _, _, rfl, samePut s26 nLs, upd_same, ?_, fun i l hi hl => ?_⟩
            · rw [take_snoc hlj, List.map_append]
              exact DpAll.snoc (tk.dpAll _ _ (to_pgs _ _) hvs) ((TupK.put e6).dp _ _ (to_pg _ _) hx6)
            · by_cases y : i < j
              · exact hno i l y hl
              · have : i = j := by omega
                subst this
                rw [hlj] at hl
                cases hl
                exact ⟨by rw [eg]; rfl, h1⟩
      · rintro σ H3 ⟨y4, y5, vs, rfl, s5, e5, hvs, hno⟩
        rw [el1] at hvs hno
        have eB := piG_ok (n := ds.length) (k := 1) (ls := ls) (fun i l hl => hno i l (List.getElem?_eq_some_iff.mp hl).1 hl)
        rw [show lenD (.tuple ds) = ds.length from rfl, eB] at eR
        dsimp only at eR
        rw [List.take_length] at hvs
        have lv := DpAll.len hvs
        rw [List.length_map] at lv
        have s05 := s02.trans s5
        refine ⟨.ref Ls, rfl, Ls, _, rfl, .inl (SqL.of e5), rfl, _, rfl, ?_⟩
        by_cases z : ls = []
        · subst z
          rw [List.length_nil] at lv
          rw [lv]
          refine iteT ⟨.ref p, rfl, p, _, rfl, .inl (SqL.of (eL _ s5)), mkO1 fun dx nd => ?_⟩
          exact q2 (some 1) eR _ dx s05 nd
        · rw [if_neg (fun y => z (List.map_eq_nil_iff.mp y))] at eR
          have lz : vs.length ≠ 0 := fun y => z (List.eq_nil_of_length_eq_zero (by omega))
          rw [decide_eq_false (fun y => lz (by have := V.int.inj y; omega))]
          refine iteF ⟨.ref tp, rfl, .ref Ls, rfl, Ls, _, rfl, .inl ⟨SqL.of e5, fun T nT => ⟨(show (2 : Nat) ≤ sizeLine by decide), fun R nR => ?_⟩⟩⟩
          have sT := sameNew (o := .tup vs) nT
          have sR := sameNew (o := .tup [.ref tp, .ref T]) nR
          refine q1 _ eR _ _ ((s05.trans sT).trans sR) (.tup (.inl (.inl upd_same)) (.cons ?_ (.cons ?_ .nil)))
          · exact (TupK.of ((s5.trans sT).trans sR)).dp _ _ tds hx
          · exact .tup (.inl (.inl (sR _ _ upd_same))) ((TupK.of (sT.trans sR)).dpAll _ _ (to_pgs _ _) hvs)
end
end Pv

namespace Pv
open PySem PySem.Spec PyProof.Rows L2 SX
/-! how long a run of digits is in a text; what a word is to the law -/
def RB (p : Nat → Bool) (B : Nat) (a : List Nat) : Prop := ∀ i n, ((a.drop i).take n).all p = true → ((a.drop i).take n).length ≤ B
abbrev dg (c : Nat) : Bool := decide (48 ≤ c) && decide (c ≤ 57)
abbrev nl (c : Nat) : Bool := !decide (c = 10)
theorem digL_dg (a : List Nat) : digL a = a.all dg := rfl
section
variable {p : Nat → Bool}
theorem RB.mono {B C : Nat} {a : List Nat} (h : RB p B a) (k : B ≤ C) : RB p C a := fun i n hd => Nat.le_trans (h i n hd) k
theorem RB.all {B : Nat} {a : List Nat} (h : RB p B a) (hd : a.all p = true) : a.length ≤ B := by
  have := h 0 a.length
  rw [List.drop_zero, List.take_length] at this
  exact this hd
theorem RB.len {B : Nat} {a : List Nat} (h : a.length ≤ B) : RB p B a := fun i n _ => by rw [List.length_take, List.length_drop]; omega
theorem RB.app {B C : Nat} {a b : List Nat} (h : RB p B a) (k : RB p C b) : RB p (B + C) (a ++ b) := by
  intro i n hd
  rw [List.drop_append, List.take_append, List.all_append, Bool.and_eq_true] at hd
  rw [List.drop_append, List.take_append, List.length_append]
  have h1 := h i n hd.1
  have h2 := k _ _ hd.2
  omega
theorem RB.sub {B : Nat} {a u b v : List Nat} (h : RB p B a) (e : a = u ++ (b ++ v)) : RB p B b := by
  intro i n hd
  have key : (a.drop (u.length + i)).take (min n (b.length - i)) = (b.drop i).take n := by
    rw [e, List.drop_append, List.drop_eq_nil_of_le (by omega), List.nil_append, show u.length + i - u.length = i by omega, List.drop_append, List.take_append_of_le_length (by rw [List.length_drop]; omega)]
    by_cases z : n ≤ b.length - i
    · rw [Nat.min_eq_left z]
    · rw [Nat.min_eq_right (by omega), List.take_of_length_le (by rw [List.length_drop]; omega), List.take_of_length_le (by rw [List.length_drop]; omega)]
  have := h (u.length + i) (min n (b.length - i))
  rw [key] at this
  exact this hd
theorem RB.take {B : Nat} {a : List Nat} (h : RB p B a) (k : Nat) : RB p B (a.take k) := h.sub (u := []) (v := a.drop k) (by simp)
theorem RB.drop {B : Nat} {a : List Nat} (h : RB p B a) (k : Nat) : RB p B (a.drop k) := h.sub (u := a.take k) (v := []) (by simp)
theorem RB.sep {B : Nat} {a b : List Nat} {c : Nat} (h : RB p B a) (k : RB p B b) (hc : p c = false) : RB p B (a ++ (c :: b)) := by
  intro i n hd
  rw [List.drop_append, List.take_append, List.all_append, Bool.and_eq_true] at hd
  rw [List.drop_append, List.take_append, List.length_append]
  by_cases z : i ≤ a.length
  · have e0 : i - a.length = 0 := by omega
    rw [e0, List.drop_zero] at hd ⊢
    cases em : n - (a.drop i).length with
    | zero => rw [List.take_zero, List.length_nil, Nat.add_zero]; exact h i n hd.1
    | succ m =>
      rw [em, List.take_succ_cons, List.all_cons, hc] at hd
      exact absurd hd.2 Bool.false_ne_true
  · obtain ⟨j, ej⟩ : ∃ j, i - a.length = j + 1 := ⟨i - a.length - 1, by omega⟩
    rw [ej, List.drop_succ_cons] at hd ⊢
    have h2 := k _ _ hd.2
    rw [List.drop_eq_nil_of_le (by omega)] at h2 ⊢
    simp at h2 ⊢
    exact h2
theorem RB.join {B : Nat} {c : Nat} (hc : p c = false) : ∀ {l : List (List Nat)}, (∀ w ∈ l, RB p B w) → RB p B (TL.joinL [c] l)
  | [], _ => RB.len (by simp [TL.joinL])
  | [w], h => by simpa [TL.joinL] using h w (List.mem_cons_self ..)
  | w :: q :: l, h => by
    have h1 := h w (List.mem_cons_self ..)
    have h2 := RB.join hc (l := q :: l) fun r hr => h r (List.mem_cons_of_mem _ hr)
    exact h1.sep h2 hc
end
theorem spl_in (c : Nat) : ∀ (l acc : List Nat), ∀ w ∈ TL.spl [c] 0 acc l, ∃ u v, acc ++ l = u ++ (w ++ v)
  | [], acc => by rw [TL.spl_nil]; intro w hw; simp at hw; exact ⟨[], [], by simp [hw]⟩
  | d :: r, acc => by
    intro w hw
    by_cases h : TL.pre [c] (d :: r) = true
    · rw [TL.spl_hit h] at hw
      rcases List.mem_cons.mp hw with rfl | hw
      · exact ⟨[], d :: r, by simp⟩
      · obtain ⟨u, v, e⟩ := spl_in c r [] w hw
        rw [List.nil_append] at e
        exact ⟨acc ++ (d :: u), v, by rw [e]; simp⟩
    · rw [TL.spl_miss (by simpa using h)] at hw
      obtain ⟨u, v, e⟩ := spl_in c r (acc ++ [d]) w hw
      exact ⟨u, v, by rw [← e]; simp⟩
theorem spl_not (c : Nat) : ∀ (l acc : List Nat), c ∉ acc → ∀ w ∈ TL.spl [c] 0 acc l, c ∉ w
  | [], acc, h0 => by rw [TL.spl_nil]; intro w hw; simp at hw; rw [hw]; exact h0
  | d :: r, acc, h0 => by
    intro w hw
    by_cases h : TL.pre [c] (d :: r) = true
    · rw [TL.spl_hit h] at hw
      rcases List.mem_cons.mp hw with rfl | hw
      · exact h0
      · exact spl_not c r [] (by simp) w hw
    · rw [TL.spl_miss (by simpa using h)] at hw
      refine spl_not c r (acc ++ [d]) (fun e => ?_) w hw
      rcases List.mem_append.mp e with e | e
      · exact h0 e
      · rw [List.mem_singleton] at e
        rw [pre_one] at h
        exact h (decide_eq_true e.symm)
theorem wds_not {c : Nat} {a w : List Nat} (hw : w ∈ wds c a) : c ∉ w := spl_not c a [] (by simp) w hw
theorem RB.word {p : Nat → Bool} {B c : Nat} {a w : List Nat} (h : RB p B a) (hw : w ∈ wds c a) : RB p B w := by
  obtain ⟨u, v, e⟩ := spl_in c a [] w hw
  exact h.sub (by rwa [List.nil_append] at e)
theorem nl_all {w : List Nat} (h : 10 ∉ w) : w.all nl = true := List.all_eq_true.mpr fun c hc => by
  have : ¬ c = 10 := fun e => h (e ▸ hc)
  simp [nl, this]
theorem RB.line {B : Nat} {a w : List Nat} (h : RB nl B a) (hw : w ∈ wds 10 a) : w.length ≤ B := (h.word hw).all (nl_all (wds_not hw))
theorem joinL_sum {c : Nat} : ∀ {l : List (List Nat)}, (TL.joinL [c] l).length + 1 ≤ (l.map (·.length)).sum + l.length + 1 ∧ (l ≠ [] → (TL.joinL [c] l).length + 1 = (l.map (·.length)).sum + l.length)
  | [] => by simp [TL.joinL]
  | [w] => by simp [TL.joinL]
  | w :: q :: l => by
    have h := (joinL_sum (c := c) (l := q :: l)).2 (by simp)
    simp only [TL.joinL, List.length_append, List.map_cons, List.sum_cons, List.length_cons, List.length_nil] at h ⊢
    exact ⟨by omega, fun _ => by omega⟩
theorem spl_back (c : Nat) : ∀ (l acc : List Nat), TL.joinL [c] (TL.spl [c] 0 acc l) = acc ++ l
  | [], acc => by rw [TL.spl_nil]; simp [TL.joinL]
  | d :: r, acc => by
    by_cases h : TL.pre [c] (d :: r) = true
    · rw [TL.spl_hit h]
      have ih := spl_back c r []
      have hd : d = c := by rw [pre_one] at h; exact of_decide_eq_true h
      simp only [List.length_cons, List.length_nil]
      obtain ⟨w, ws, e⟩ : ∃ w ws, TL.spl [c] 0 [] r = w :: ws := wds_cons c r
      rw [show 0 + 1 - 1 = 0 from rfl, e]
      rw [e, List.nil_append] at ih
      show acc ++ ([c] ++ TL.joinL [c] (w :: ws)) = _
      rw [ih, hd]; simp
    · rw [TL.spl_miss (by simpa using h), spl_back c r (acc ++ [d])]; simp
theorem wds_back (c : Nat) (a : List Nat) : TL.joinL [c] (wds c a) = a := spl_back c a []
theorem sum_set_le {l : List (List Nat)} {j : Nat} {o : List Nat} : ((l.set j o).map (·.length)).sum ≤ (l.map (·.length)).sum + o.length := by
  induction l generalizing j with
  | nil => simp
  | cons w l ih =>
    cases j with
    | zero => simp only [List.set_cons_zero, List.map_cons, List.sum_cons]; omega
    | succ j => have := ih (j := j); simp only [List.set_cons_succ, List.map_cons, List.sum_cons]; omega
theorem join_set_len (c j : Nat) (a o : List Nat) : (TL.joinL [c] ((wds c a).set j o)).length ≤ a.length + o.length := by
  have h1 := (joinL_sum (c := c) (l := (wds c a).set j o)).2 (by
    obtain ⟨w, ws, e⟩ := wds_cons c a
    intro z
    have := congrArg List.length z
    rw [List.length_set, e] at this
    simp at this)
  have h2 := (joinL_sum (c := c) (l := wds c a)).2 (by obtain ⟨w, ws, e⟩ := wds_cons c a; rw [e]; simp)
  rw [wds_back] at h2
  have h3 := sum_set_le (l := wds c a) (j := j) (o := o)
  rw [List.length_set] at h1
  omega
/-! numbers -/
def lnO (a : List Nat) : Int := if a = [] ∨ digL a = false then -1 else if a.head? = some 48 ∧ a ≠ [48] then -1 else (NumText.digitsVal a : Nat)
theorem val_ge : ∀ {cs : List Nat} (acc : Nat), (cs.foldl (fun acc c => acc * 10 + (c - 48)) acc) ≥ acc * 10 ^ cs.length
  | [], acc => by simp
  | c :: cs, acc => by
    rw [List.foldl_cons, List.length_cons, Nat.pow_succ]
    have h := val_ge (cs := cs) (acc * 10 + (c - 48))
    have h2 : acc * (10 ^ cs.length * 10) ≤ (acc * 10 + (c - 48)) * 10 ^ cs.length := by
      rw [Nat.add_mul, Nat.mul_comm (10 ^ cs.length) 10, ← Nat.mul_assoc]
      exact Nat.le_add_right _ _
    exact Nat.le_trans h2 h
theorem val_big {a : List Nat} (hd : digL a = true) (h0 : a.head? ≠ some 48) (hl : 30 < a.length) : 10 ^ 30 ≤ NumText.digitsVal a := by
  cases a with
  | nil => simp at hl
  | cons c cs =>
    have hc := digL_iff.mp hd c (List.mem_cons_self ..)
    have h0 : c ≠ 48 := fun e => h0 (by rw [e]; rfl)
    have h := val_ge (cs := cs) (0 * 10 + (c - 48))
    have h2 : 1 * 10 ^ cs.length ≤ (0 * 10 + (c - 48)) * 10 ^ cs.length := Nat.mul_le_mul_right _ (by omega)
    have h3 : 10 ^ 30 ≤ 10 ^ cs.length := Nat.pow_le_pow_right (by decide) (by rw [List.length_cons] at hl; omega)
    have : NumText.digitsVal (c :: cs) = cs.foldl (fun acc c => acc * 10 + (c - 48)) (0 * 10 + (c - 48)) := rfl
    rw [this]
    omega
theorem lnO_ge (a : List Nat) : -1 ≤ lnO a := by
  unfold lnO
  split
  · omega
  · split <;> omega
theorem pn_ln (a : List Nat) : pnO a = (if 0 ≤ lnO a ∧ a.length ≤ 30 then some (lnO a) else none) := by
  unfold pnO lnO
  by_cases h1 : a ≠ [] ∧ digL a = true
  · have h1' : ¬ (a = [] ∨ digL a = false) := fun e => e.elim h1.1 (fun e => by rw [h1.2] at e; cases e)
    rw [if_pos h1, if_neg h1']
    by_cases h2 : a.head? = some 48 ∧ a ≠ [48]
    · have h2' : a.head? = some 48 ∧ 1 < a.length := ⟨h2.1, by
        cases a with
        | nil => simp at h2
        | cons c cs =>
          have : c = 48 := by simpa using h2.1
          subst this
          cases cs with
          | nil => simp at h2
          | cons _ _ => simp⟩
      rw [if_pos h2', if_pos h2]
      split
      · rw [if_neg (fun e => by omega)]
      · rw [if_neg (fun e => by omega)]
    · have h2' : ¬ (a.head? = some 48 ∧ 1 < a.length) := fun e => h2 ⟨e.1, fun z => by rw [z] at e; simp at e⟩
      rw [if_neg h2', if_neg h2]
      by_cases h3 : 30 < a.length
      · rw [if_pos h3, if_neg (fun e => by omega)]
      · rw [if_neg h3, if_pos ⟨by omega, by omega⟩]
  · have h1' : a = [] ∨ digL a = false := by
      by_cases e : a = []
      · exact .inl e
      · exact .inr (by cases z : digL a with
          | false => rfl
          | true => exact absurd ⟨e, z⟩ h1)
    rw [if_neg h1, if_pos h1', if_neg (fun e => by omega)]
/-- short words and the law's integers say the same of a bound -/
theorem ln_long {a : List Nat} (h : 30 < a.length) (h0 : 0 ≤ lnO a) : (10 : Int) ^ 30 ≤ lnO a := by
  unfold lnO at h0 ⊢
  by_cases h1 : a = [] ∨ digL a = false
  · rw [if_pos h1] at h0; omega
  · rw [if_neg h1] at h0 ⊢
    by_cases h2 : a.head? = some 48 ∧ a ≠ [48]
    · rw [if_pos h2] at h0; omega
    · rw [if_neg h2]
      have hd : digL a = true := by
        cases z : digL a with
        | true => rfl
        | false => exact absurd (.inr z) h1
      have hh : a.head? ≠ some 48 := fun e => h2 ⟨e, fun z => by rw [z] at h; simp at h⟩
      have := val_big hd hh h
      have e : ((10 : Int) ^ 30) = ((10 ^ 30 : Nat) : Int) := by decide
      rw [e]
      exact Int.ofNat_le.mpr this
theorem pn_in {a : List Nat} {lo hi : Int} (h0 : 0 ≤ lo) (h1 : hi ≤ 10 ^ 12) : (∃ i, pnO a = some i ∧ lo ≤ i ∧ i ≤ hi) ↔ (lo ≤ lnO a ∧ lnO a ≤ hi) := by
  rw [pn_ln]
  constructor
  · rintro ⟨i, e, k1, k2⟩
    split at e
    · cases e; exact ⟨k1, k2⟩
    · cases e
  · rintro ⟨k1, k2⟩
    have hl : a.length ≤ 30 := by
      by_cases z : a.length ≤ 30
      · exact z
      · have := ln_long (a := a) (by omega) (by omega)
        omega
    rw [if_pos ⟨by omega, hl⟩]
    exact ⟨_, rfl, k1, k2⟩
theorem pn_eq {a : List Nat} {lo hi : Int} (h0 : 0 ≤ lo) (h1 : hi ≤ 10 ^ 12) (h : lo ≤ lnO a ∧ lnO a ≤ hi) : pnO a = some (lnO a) := by
  obtain ⟨i, e, _⟩ := (pn_in h0 h1).mpr h
  rw [e]
  rw [pn_ln] at e
  split at e
  · cases e; rfl
  · cases e
end Pv

/-! set(l) of a list of ints, as cr_setT has it for a tuple -/
namespace Pv
open PySem PySem.Spec PyProof.Rows L2
/-- a set just made -/
abbrev bareSet (w : World) : Obj := { cls := .type "set", dict := none, data := .set #[] 0 (.fresh 0 0 (!w.params.followText "set-order")) }
section
variable {P : Program} {w : World} {A : Around} {E : Value → Shared → Prop}
/-- what is left behind: the set of the ints ns at S, all else as it was -/
def SetLaid (w : World) (s s' : Shared) (S : Addr) (ns : List Int) : Prop :=
  ∃ h' tk c, s' = { s with heap := h', toks := tk } ∧ SetR w h' S (fun j => decide (j ∈ ns)) c ∧ c ≤ ns.length ∧ ∀ b o, b ≠ S → s.heap.get? b = some o → h'.get? b = some o
set_option maxHeartbeats 3200000 in
theorem init_setL {s : Shared} {S l : Addr} {its : Array Value} {ns : List Int} (hh : A.handled = none) (hS : s.heap.get? S = some (bareSet w)) (hl : s.heap.IsList l its) (hn : S ≠ l) (hi : IntsAre its.toList ns) (hb : ns.length + 1 < scanBound) :
    codeAny (model P w) A (.call (.builtin "set.__init__") ⟨[.ref S, .ref l], []⟩) (wants (fun r s' => r = .none ∧ SetLaid w s s' S ns) E) s := by
  have hT : s.TypeIs (.ref S) "set" := ⟨_, hS, rfl⟩
  have hz : its.size = ns.length := by have q := IntsAre.length hi; rw [Array.length_toList] at q; exact q
  refine codeAny_call_builtin PySem.F.called_set.init.plain PySem.F.entry_set_init (check_set_init_1 hT ?_)
  obtain ⟨⟨oc, od, ox, os⟩, hol, hcl, nl, hdl⟩ := id hl
  simp only at hcl hdl
  subst hcl hdl
  have z1 := PySem.F.sub_list_set
  have z2 := PySem.F.sub_list_frozenset
  have z3 : (Value.type "list" == Value.type "dict") = false := by decide
  unfold Builtin.«set.__init__» noKeywords Builtin.Frozenset.updateFrom; generalize hit : pyIter = it
  wp_walk
  subst hit; refine wpAny_pyIter_list hl (wpAny_bind (wpAny_runValue ?_))
  have l1 : l ≠ s.heap.objs.size := Nat.ne_of_lt (Heap.lt_size hol)
  have l2 : S ≠ s.heap.objs.size := Nat.ne_of_lt (Heap.lt_size hS)
  have l3 : A.in1.in1.handled = none := by simp [hh]
  refine set_update_ints (Walks.list (A := A.in1.in1) l3 _ l l1 its).toS S (by simp only [List.mem_cons, List.not_mem_nil, or_false, not_or]; exact ⟨l2, hn⟩) ns hz hb ?val (its.size - 0) 0 _ (by omega) (Nat.zero_le _) ⟨⟨_, Heap.get?_push_size _ rfl, rfl, rfl⟩, hl.push _⟩
    ⟨0, Nat.le_refl 0, setR_new_at (Heap.get?_push_of_some _ hS)⟩ ?done
  case val =>
    intro i v hv
    have hlt : i < ns.length := by rw [← hz]; exact (Array.getElem?_eq_some_iff.mp hv).1
    obtain ⟨t, e⟩ := IntsAre.int_at hi i v (by rw [Array.getElem?_toList]; exact hv)
    exact ⟨ns[i], t, List.getElem?_eq_getElem hlt, by rw [e, List.getD_eq_getElem?_getD, List.getElem?_eq_getElem hlt]; rfl⟩
  case done =>
    rintro ⟨h', g', d', tk', os'⟩ c hm hc hR
    obtain ⟨eg, ed, eo⟩ : g' = s.gens ∧ d' = s.drawn ∧ os' = s.os := ⟨hm.gens, hm.drawn, hm.os⟩
    subst eg ed eo
    show wpAny _ _ _ _ _ _
    refine wpAny_pure ?_; show wpAny _ _ (ret Value.none) _ _ _
    refine wpAny_pure ⟨rfl, h', tk', c, rfl, hR, hz ▸ hc, fun b o hb e => ?_⟩
    exact hm.heap b o (by simp only [List.mem_cons, List.not_mem_nil, or_false, not_or]; exact ⟨hb, Nat.ne_of_lt (Heap.lt_size e)⟩) (Heap.get?_push_of_some _ e)
set_option maxHeartbeats 3200000 in
theorem call_setL {s : Shared} {l : Addr} {its : Array Value} {ns : List Int} {Q : Value → Shared → Prop} (hh : A.handled = none) (hl : s.heap.IsList l its) (hi : IntsAre its.toList ns) (hb : ns.length + 1 < scanBound)
    (q : ∀ (h' : Heap) (tk c : Nat), SetR w h' s.heap.objs.size (fun j => decide (j ∈ ns)) c → c ≤ ns.length → (∀ b o, s.heap.get? b = some o → h'.get? b = some o) → Q (.ref s.heap.objs.size) { s with heap := h', toks := tk }) :
    wpAny (model P w) A (call (.type "set") [.ref l]) Q E s := by
  obtain ⟨c, tl, m1⟩ := PySem.F.called_set.mro
  have m2 := PySem.F.called_set.made
  have m3 := PySem.F.called_set.sub
  have m4 := PySem.F.called_set.notType
  have m5 := PySem.F.called_set.canCreate
  have m6 := PySem.F.typeCall_set_1 (.ref l)
  refine wpAny_call (codeAny_of_tree (wpAny_pure ⟨Code.quiet_builtin _ (by decide +kernel), codeAny_builtin PySem.F.entry_type_call ?_⟩))
  rw [Around.under_plain (weight_type_call_type "set" [.ref l] []) rfl]; repeat (any_goals (first | assumption | wp_step))
  refine codeAny_mono (code_set_led1 (.ref l) (E := E) (Q₁ := fun x s1 => x = .ref s.heap.objs.size ∧ s1 = { s with heap := s.heap.push (bareSet w) }) ⟨rfl, rfl⟩) fun r s1 hr => ?_
  rcases r with e | f; · exact hr
  rcases f with _ | x | _ | _
  case ret =>
    obtain ⟨rfl, rfl⟩ := hr
    have hS : (s.heap.push (bareSet w)).get? s.heap.objs.size = some (bareSet w) := Heap.get?_push_size _ rfl
    have hT : Shared.TypeIs { s with heap := s.heap.push (bareSet w) } (.ref s.heap.objs.size) "set" := ⟨_, hS, rfl⟩
    have m7 := PySem.F.called_set.init.lookup
    have m8 := PySem.F.called_set.init.bind (.ref s.heap.objs.size)
    repeat (any_goals (first | assumption | wp_step))
    have hlt : s.heap.objs.size ≠ l := by obtain ⟨o, ho, _⟩ := hl; exact Nat.ne_of_gt (Heap.lt_size ho)
    refine codeAny_mono (init_setL (E := E) (s := { s with heap := s.heap.push (bareSet w) }) (ns := ns) (by simp [hh]) hS (hl.push _) hlt hi hb) fun r2 s2 hr2 => ?_
    rcases r2 with e | f2; · exact hr2
    rcases f2 with _ | y | _ | _
    case ret =>
      obtain ⟨rfl, h', tk, c', rfl, hR, hc, hk⟩ := hr2
      repeat (any_goals (first | assumption | wp_step))
      exact q h' tk c' hR hc fun b o e => hk b o (Nat.ne_of_lt (Heap.lt_size e)) (Heap.get?_push_of_some _ e)
    all_goals exact hr2.elim
  all_goals exact hr.elim
end
section
variable {X : Cx}
def rSetL (w : World) (K : PySem.W.Frag) : RC := fun vs H Q => ∃ (a : Addr) (ns : List Int), vs = [V.ref a] ∧ SqL K H a (ns.map V.int) ∧ ns.length < 64 ∧
  ∀ (p : Addr) (c : Nat), H p = none → (∃ ks : List Int, ks.Nodup ∧ (∀ k, k ∈ ks ↔ k ∈ ns) ∧ ks.length = c) → c ≤ ns.length → Q (.ref p) (upd H p (SetO w p (fun j => decide (j ∈ ns)) c))
theorem cr_setL (hc : X.calm = true) : CallR X (.type "set") (rSetL X.w X.K) := by
  intro pins s σ H vs us Q I rel h
  obtain ⟨a, ns, e, hs, h64, q⟩ := h
  subst e
  obtain ⟨its, rv, pl, hz⟩ := I.list hs
  rw [Vals.ref1 rel]
  have hi := rv.ints
  have hsb : scanBound > 65 := by decide
  refine call_setL (ns := ns) (I.ok.hd hc) pl.isList (by simpa using hi) (by omega) ?_
  intro h' tk c R hcn kp
  refine ⟨.ref s.heap.objs.size, _, I.laid (a := s.heap.objs.size) (o := SetO X.w s.heap.objs.size (fun j => decide (j ∈ ns)) c) (t' := tk) kp (Nat.le_refl _) (setO_new R), rfl, q _ c (I.hok.fresh (Nat.le_refl _)) ?_ hcn⟩
  obtain ⟨o, es, ep, t, _, _, _, _, nd, hm, _, _, hn, _⟩ := R
  exact ⟨es.toList.map keyOf, nd, fun k => by rw [← hm k]; simp, by rw [List.length_map, Array.length_toList]; exact hn⟩
end
end Pv

namespace Pv
open PySem PySem.Spec PyProof.Rows L2 SX
def rCatS : R2 := fun x y H Q => ∃ i j, x = .str i ∧ y = .str j ∧ i.length + j.length ≤ sizeLine ∧ Q (.str (i ++ j)) H
theorem op_catS {X : Cx} : OpR X (binaryOp .Add) rCatS := op_add_str
theorem is_digit (c : Nat) : decide (c ∈ (Str.ofString "0123456789").cps.toList) = (decide (48 ≤ c) && decide (c ≤ 57)) := by
  have e : (Str.ofString "0123456789").cps.toList = [48, 49, 50, 51, 52, 53, 54, 55, 56, 57] := by rfl
  rw [e, Bool.eq_iff_iff]
  simp only [decide_eq_true_eq, List.mem_cons, List.not_mem_nil, or_false, Bool.and_eq_true]
  omega
theorem at_S {a : List Nat} {i : Nat} {c : Nat} (h : (S a).cps[i]? = some c) : a[i]? = some c := by
  simpa [S] using h
theorem size_S (a : List Nat) : (S a).cps.size = a.length := by simp [S]
section
variable {X : Cx}
def rSetLW (w : World) (K : PySem.W.Frag) : RC := fun vs H Q => ∃ (a : Addr) (ns : List Int), vs = [V.ref a] ∧ SqL K H a (ns.map V.int) ∧ ns.length ≤ 4000 ∧
  ∀ (p : Addr) (c : Nat), H p = none → (∃ ks : List Int, ks.Nodup ∧ (∀ k, k ∈ ks ↔ k ∈ ns) ∧ ks.length = c) → c ≤ ns.length → Q (.ref p) (upd H p (SetO w p (fun j => decide (j ∈ ns)) c))
theorem cr_setLW (hc : X.calm = true) : CallR X (.type "set") (rSetLW X.w X.K) := by
  intro pins s σ H vs us Q I rel h
  obtain ⟨a, ns, e, hs, h64, q⟩ := h
  subst e
  obtain ⟨its, rv, pl, hz⟩ := I.list hs
  rw [Vals.ref1 rel]
  have hi := rv.ints
  have hsb : scanBound = 4096 := rfl
  refine call_setL (ns := ns) (I.ok.hd hc) pl.isList (by simpa using hi) (by omega) ?_
  intro h' tk c R hcn kp
  refine ⟨.ref s.heap.objs.size, _, I.laid (a := s.heap.objs.size) (o := SetO X.w s.heap.objs.size (fun j => decide (j ∈ ns)) c) (t' := tk) kp (Nat.le_refl _) (setO_new R), rfl, q _ c (I.hok.fresh (Nat.le_refl _)) ?_ hcn⟩
  obtain ⟨o, es, ep, t, _, _, _, _, nd, hm, _, _, hn, _⟩ := R
  exact ⟨es.toList.map keyOf, nd, fun k => by rw [← hm k]; simp, by rw [List.length_map, Array.length_toList]; exact hn⟩
end
end Pv

namespace Pv
open PySem PySem.Spec PyProof.Rows L2 SX
abbrev sNu : Stmt := topS 37
theorem scNu : FnScope ["_law_word", "_law_sign"] ["_law_word"] (defScope sNu) := ⟨rfl, rfl, rfl, by decide +kernel, rfl, by decide +kernel, by decide +kernel⟩
section
variable {P : Program} {w : World} {K : PySem.W.Frag} {mg : Str → Option Value} {base : Heap}
def spNu : Sp := fun vs H Q _ => ∃ (a : List Nat), vs = [.str (S a)] ∧ a.length ≤ 90000 ∧ (digL a = true → a.length ≤ 640) ∧ ∀ H', Same H H' → Q (.int (lnO a)) H'
set_option maxHeartbeats 4000000 in
theorem ok_Nu {f : Addr} {fd : FuncData} (F : Fun K "_law_number" "_law_number" sNu f fd)
    (m_int : mg "int" = none) :
    FnOk P w K mg base CX0 1 f fd ["_law_word"] spNu := by
  refine F.ok scNu (fun vs H Q E h => ?_) (fun cdv A outer s H vs Q E hr h => ?_)
  · obtain ⟨a, rfl, _⟩ := h; rfl
  · obtain ⟨a, rfl, hl, hd, q⟩ := h
    have hu64 : (A.deeper (envOfC "_law_number" (defScope sNu) s.heap.objs.size f cdv)).units + 64 < cLine := by have := hr.un; omega
    have hu0 : (A.deeper (envOfC "_law_number" (defScope sNu) s.heap.objs.size f cdv)).units < cLine := by have := hr.un; omega
    refine ⟨_, pss_cons (ps_if (PW.pt (pw_or (pt_cmpR op_eq (pv 0) (pe_str) (nomark _)) (pw_or1 (pt_cmpR (op_neNil hu0) (pe_lc (own := [("_law_sign", 1)]) (g := gName 1) (tt := tTest (tOp rNotInS (tVar 1) (tC (.str "0123456789")))) (te := tVar 1) rfl scNu.nd (pi_str (pv 0)) (blkOk_by (N := ["_law_word", "_law_sign"]) (sc := defScope sNu) (by decide +kernel)) (fun _ _ _ _ _ => pg_name (i := 1) scNu.nd rfl (.inl rfl)) (fun _ _ _ _ _ => pts_one (pt_cmpR op_notInS (pv 1) (pe_str) (by rfl))) (fun _ _ _ _ _ => pv 1)) (pe_lst (pa_nil)) (nomark _)))))
        (pss_one (ps_ret (pe_un un_neg (pe_int)))) pss_nil)
      (pss_one (ps_ret (pe_ifExp (PW.pt (pw_and (pt_cmpR op_eq (pe_ix ix_str (pv 0) (pe_int) (fun _ _ => rfl)) (pe_str) (nomark _)) (pw_and1 (pt_cmpR op_ne (pv 0) (pe_str) (nomark _))))) (pe_un un_neg (pe_int)) (pe_callTy call_intQ (by rfl) m_int (by decide +kernel) (pa_cons (pv 0) pa_nil))))), ?_⟩
    have hS : (S a).length ≤ sizeLine := by rw [S_len]; exact small6 (by omega)
    refine ⟨.str (S a), rfl, rfl, _, rfl, ?_⟩
    by_cases he : a = []
    · have hz : decide (V.str (S a) = V.str (Str.ofString "")) = true := decide_eq_true (by rw [he]; rfl)
      rw [hz]
      refine iteT ?_
      refine iteT ?_
      have := q H (Same.refl _)
      unfold lnO at this
      rw [if_pos (.inl he)] at this
      exact ⟨1, rfl, this⟩
    have hz : decide (V.str (S a) = V.str (Str.ofString "")) = false := decide_eq_false fun e => he (S_inj (V.str.inj e))
    rw [hz]
    refine iteF ?_
    refine ⟨.str (S a), rfl, S a, rfl, fun D nD => lc_it (walk_str (z := S a)) (LcP H D a (fun c => if (decide (48 ≤ c) && decide (c ≤ 57)) = true then none else some (.str ⟨#[c]⟩))) (.start nD) (fun _ _ _ _ => trivial) ?_ ?_⟩
    · rintro j x H3 H4 hj hL ⟨rfl, c, hc, rfl⟩
      have hc := at_S hc
      have hjl := (List.getElem?_eq_some_iff.mp hc).1
      refine ⟨rfl, .str ⟨#[c]⟩, rfl, c, _, rfl, rfl, _, rfl, ?_⟩
      rw [is_digit]
      cases hdg : (decide (48 ≤ c) && decide (c ≤ 57)) with
      | true => exact iteF (hL.no (Same.refl _) hc (by rw [hdg]; rfl))
      | false => exact iteT ⟨_, rfl, hL.yes nD (Same.refl _) hc (by rw [hdg]; rfl) (by omega)⟩
    · rintro H3 hL
      have e3 := hL.done (by rw [size_S]; exact Nat.le_refl _)
      refine ⟨Nat.zero_le _, fun p np => ⟨D, p, _, rfl, rfl, SqL.of (upNew np e3), SqL.of upd_same, ?_⟩⟩
      have s3 := hL.1.trans (sameNew (o := .lst []) np)
      generalize upd H3 p (.lst []) = H4 at s3 ⊢
      have hem : (a.filterMap (fun c => if (decide (48 ≤ c) && decide (c ≤ 57)) = true then none else some (V.str ⟨#[c]⟩))).isEmpty = digL a := by
        clear e3 hL hd q he hS hl hz
        induction a with
        | nil => rfl
        | cons c a ih =>
          rw [List.filterMap_cons]
          cases hdg : (decide (48 ≤ c) && decide (c ≤ 57)) with
          | true => rw [if_pos rfl]; dsimp only; rw [ih]; simp [digL]; simp at hdg; exact fun _ => hdg
          | false => rw [if_neg Bool.false_ne_true]; simp [digL]; intro h1 h2; simp at hdg; omega
      rw [hem]
      refine ⟨_, rfl, ?_⟩
      cases hdg : digL a with
      | false =>
        refine iteT ?_
        have := q H4 s3
        unfold lnO at this
        rw [if_pos (.inr hdg)] at this
        exact ⟨1, rfl, this⟩
      | true =>
        refine iteF ?_
        obtain ⟨c, r, rfl⟩ : ∃ c r, a = c :: r := by
          cases a with
          | nil => exact absurd rfl he
          | cons c r => exact ⟨c, r, rfl⟩
        have hq := q H4 s3
        unfold lnO at hq
        rw [if_neg (fun e => e.elim (fun e => by cases e) (fun e => by rw [hdg] at e; cases e))] at hq
        refine ⟨.str (S (c :: r)), rfl, S (c :: r), 0, c, rfl, rfl, hS, atI_nat (j := 0) rfl, rfl, _, rfl, ?_⟩
        have hint : intText? (S (c :: r)) = some ((NumText.digitsVal (c :: r) : Nat) : Int) := int_S hdg (by simp) (by have := hd hdg; omega)
        by_cases hc : c = 48
        · have hz0 : decide (V.str (⟨#[c]⟩ : Str) = V.str (Str.ofString "0")) = true := decide_eq_true (by rw [hc]; rfl)
          rw [hz0]
          refine iteT ⟨.str (S (c :: r)), rfl, rfl, _, rfl, ?_⟩
          by_cases hr' : r = []
          · have hz1 : (!decide (V.str (S (c :: r)) = V.str (Str.ofString "0"))) = false := by rw [decide_eq_true (by rw [hc, hr']; rfl)]; rfl
            rw [hz1]
            refine iteF ⟨.str (S (c :: r)), rfl, _, _, rfl, hint, by rw [S_len]; have := hd hdg; omega, ?_⟩
            rw [if_neg (fun e => e.2 (by rw [hc, hr']))] at hq
            exact hq
          · have hz1 : (!decide (V.str (S (c :: r)) = V.str (Str.ofString "0"))) = true := by
              rw [decide_eq_false fun e => hr' (by
                have := S_inj (a := c :: r) (b := [48]) (V.str.inj e)
                simpa [hc] using this)]; rfl
            rw [hz1]
            rw [if_pos ⟨by rw [hc]; rfl, fun e => hr' (by simpa [hc] using e)⟩] at hq
            exact iteT ⟨1, rfl, hq⟩
        · have hz0 : decide (V.str (⟨#[c]⟩ : Str) = V.str (Str.ofString "0")) = false := decide_eq_false fun e => hc (by
            have := S_inj (a := [c]) (b := [48]) (V.str.inj e)
            simpa using this)
          rw [hz0]
          refine iteF ⟨.str (S (c :: r)), rfl, _, _, rfl, hint, by rw [S_len]; have := hd hdg; omega, ?_⟩
          rw [if_neg (fun e => hc (by simpa using e.1))] at hq
          exact hq
end
end Pv

namespace Pv
open PySem PySem.Spec PyProof.Rows L2 SX
/-! lines and words as the law reads them -/
theorem firstErr_all {ge : Nat → PyData → Option PyData} : ∀ {ds : List PyData} {i : Nat}, firstErr ge i ds = none → ∀ j d, ds[j]? = some d → ge (i + j) d = none
  | [], _, _, _, _, h => by simp at h
  | x :: ds, i, h, j, d, hd => by
    unfold firstErr at h
    cases e : ge i x with
    | some _ => rw [e] at h; cases h
    | none =>
      rw [e] at h
      cases j with
      | zero => simp at hd; subst hd; exact e
      | succ j => rw [show i + (j + 1) = i + 1 + j by omega]; exact firstErr_all (ds := ds) (i := i + 1) h j d (by simpa using hd)
theorem within_pn {lo hi : Int} (h0 : 0 ≤ lo) (h1 : hi ≤ 10 ^ 12) (a : List Nat) : withinD lo hi (oD (pnO a)) = true ↔ (lo ≤ lnO a ∧ lnO a ≤ hi) := by
  rw [← pn_in h0 h1]
  constructor
  · intro h
    cases e : pnO a with
    | none => rw [e] at h; cases h
    | some i => rw [e] at h; exact ⟨i, rfl, of_decide_eq_true h⟩
  · rintro ⟨i, e, h⟩
    rw [e]
    exact decide_eq_true h
theorem dWs_ln {lo hi : Int} (h0 : 0 ≤ lo) (h1 : hi ≤ 10 ^ 12) {ws : List (List Nat)} (h : ∀ w ∈ ws, lo ≤ lnO w ∧ lnO w ≤ hi) : dWs ws = (ws.map lnO).map PyData.int := by
  unfold dWs
  rw [List.map_map]
  refine List.map_congr_left fun w hw => ?_
  rw [pn_eq h0 h1 (h w hw)]; rfl
theorem posts_ln (ws : List (List Nat)) : postsE (.tuple (dWs ws)) = none ↔ (1 ≤ ws.length ∧ ws.length ≤ 6 ∧ ∀ w ∈ ws, 1 ≤ lnO w ∧ lnO w ≤ 10 ^ 12) := by
  have hl : (dWs ws).length = ws.length := by simp [dWs]
  unfold postsE
  by_cases ht : 1 ≤ ws.length ∧ ws.length ≤ 6
  · have : tupOfD 1 6 (.tuple (dWs ws)) = true := decide_eq_true (by rw [hl]; omega)
    rw [if_pos this]
    constructor
    · intro h
      refine ⟨ht.1, ht.2, fun w hw => ?_⟩
      obtain ⟨j, hj, e⟩ := List.getElem_of_mem hw
      have hd : (tupItems (.tuple (dWs ws)))[j]? = some (oD (pnO w)) := by
        show (dWs ws)[j]? = _
        unfold dWs
        rw [List.getElem?_map, List.getElem?_eq_getElem hj, e]; rfl
      have h2 := firstErr_all h j _ hd
      unfold capE at h2
      split at h2
      · rename_i hw2
        exact (within_pn (lo := 1) (hi := bigI) (by decide) (by decide) w).mp hw2
      · cases h2
    · rintro ⟨_, _, h⟩
      refine firstErr_none fun j d hd => ?_
      have hd : (dWs ws)[j]? = some d := hd
      unfold dWs at hd
      rw [List.getElem?_map] at hd
      obtain ⟨w, hw, rfl⟩ := Option.map_eq_some_iff.mp hd
      unfold capE
      rw [if_pos ((within_pn (lo := 1) (hi := bigI) (by decide) (by decide) w).mpr (h w (List.mem_of_getElem? hw)))]
  · have : ¬ tupOfD 1 6 (.tuple (dWs ws)) = true := fun e => ht (by have := of_decide_eq_true e; rw [hl] at this; omega)
    rw [if_neg this]
    constructor
    · intro h; cases h
    · rintro ⟨a, b, _⟩; exact absurd ⟨a, b⟩ ht
def lpD (a : List Nat) : PyData := match wds 32 a with
  | [] => .none
  | w0 :: ws => if w0 = [112, 111, 115, 116, 115] ∧ 1 ≤ ws.length ∧ ws.length ≤ 6 ∧ ∀ w ∈ ws, 1 ≤ lnO w ∧ lnO w ≤ 10 ^ 12 then dI (ws.map lnO) else .none
theorem pp_lp (a : List Nat) : ppD a = lpD a := by
  unfold ppD lpD
  cases ew : wds 32 a with
  | nil => rfl
  | cons w0 ws =>
    dsimp only
    by_cases h : w0 = [112, 111, 115, 116, 115] ∧ 1 ≤ ws.length ∧ ws.length ≤ 6 ∧ ∀ w ∈ ws, 1 ≤ lnO w ∧ lnO w ≤ 10 ^ 12
    · rw [if_pos h, if_pos ⟨h.1, (posts_ln ws).mpr h.2⟩, dWs_ln (lo := 1) (hi := 10 ^ 12) (by decide) (by decide) h.2.2.2]; rfl
    · rw [if_neg h, if_neg fun e => h ⟨e.1, (posts_ln ws).mp e.2⟩]
theorem list_ln {n : Int} (hn : n ≤ 10 ^ 12) (ws : List (List Nat)) : listD n (.tuple (dWs ws)) = true ↔ ((∀ w ∈ ws, 0 ≤ lnO w ∧ lnO w < n) ∧ (ws.map lnO).Nodup) := by
  constructor
  · intro h
    have hall : ∀ w ∈ ws, 0 ≤ lnO w ∧ lnO w ≤ n - 1 := by
      intro w hw
      by_cases z : (dWs ws).all (withinD 0 (n - 1)) = true
      · have hm : oD (pnO w) ∈ dWs ws := List.mem_map.mpr ⟨w, hw, rfl⟩
        exact (within_pn (lo := 0) (hi := n - 1) (by decide) (by omega) w).mp (List.all_eq_true.mp z _ hm)
      · rw [listD_out (by simpa using z)] at h; cases h
    have e := dWs_ln (lo := 0) (hi := n - 1) (by decide) (show n - 1 ≤ 10 ^ 12 by omega) hall
    rw [e, listD_ints, Bool.and_eq_true] at h
    exact ⟨fun w hw => by have := hall w hw; omega, of_decide_eq_true h.2⟩
  · rintro ⟨h1, h2⟩
    have e := dWs_ln (lo := 0) (hi := n - 1) (by decide) (show n - 1 ≤ 10 ^ 12 by omega) (fun w hw => by have := h1 w hw; omega)
    rw [e, listD_ints, Bool.and_eq_true]
    refine ⟨List.all_eq_true.mpr fun x hx => decide_eq_true ?_, decide_eq_true h2⟩
    obtain ⟨w, hw, rfl⟩ := List.mem_map.mp hx
    have := h1 w hw
    omega
def lgD (n : Nat) (a : List Nat) : PyData := match wds 32 a with
  | [] => .none
  | w0 :: ws => if w0.getLast? = some 58 ∧ (1 ≤ lnO w0.dropLast ∧ lnO w0.dropLast ≤ 10 ^ 12) ∧ (∀ w ∈ ws, 0 ≤ lnO w ∧ lnO w < n) ∧ (ws.map lnO).Nodup then dGrp (ws.map lnO, lnO w0.dropLast) else .none
theorem group_ln {n : Nat} (hn : n ≤ 50) (w0 : List Nat) (ws : List (List Nat)) : groupsE n (.tuple [gD w0 ws]) = none ↔ ((1 ≤ lnO w0.dropLast ∧ lnO w0.dropLast ≤ 10 ^ 12) ∧ (∀ w ∈ ws, 0 ≤ lnO w ∧ lnO w < n) ∧ (ws.map lnO).Nodup) := by
  have e1 : groupsE n (.tuple [gD w0 ws]) = grpE n 0 (gD w0 ws) := by
    unfold groupsE
    rw [if_pos (by simp [tupOfD])]
    show firstErr (grpE n) 0 [gD w0 ws] = _
    unfold firstErr
    cases grpE n 0 (gD w0 ws) <;> rfl
  have hw := within_pn (lo := 1) (hi := bigI) (by decide) (by decide) w0.dropLast
  have hl := list_ln (n := n) (by omega) ws
  rw [e1]
  show (if listD n (.tuple (dWs ws)) = true then (if withinD 1 bigI (oD (pnO w0.dropLast)) = true then none else some _) else some _) = none ↔ _
  by_cases z1 : listD n (.tuple (dWs ws)) = true
  · rw [if_pos z1]
    by_cases z2 : withinD 1 bigI (oD (pnO w0.dropLast)) = true
    · rw [if_pos z2]
      exact ⟨fun _ => ⟨hw.mp z2, hl.mp z1⟩, fun _ => rfl⟩
    · rw [if_neg z2]
      exact ⟨(fun h => by cases h), fun h => absurd (hw.mpr h.1) z2⟩
  · rw [if_neg z1]
    exact ⟨(fun h => by cases h), fun h => absurd (hl.mpr h.2) z1⟩
theorem pg_lg {n : Nat} (hn : n ≤ 50) (a : List Nat) : pgD n a = lgD n a := by
  unfold pgD lgD
  cases ew : wds 32 a with
  | nil => rfl
  | cons w0 ws =>
    dsimp only
    by_cases h : w0.getLast? = some 58 ∧ (1 ≤ lnO w0.dropLast ∧ lnO w0.dropLast ≤ 10 ^ 12) ∧ (∀ w ∈ ws, 0 ≤ lnO w ∧ lnO w < n) ∧ (ws.map lnO).Nodup
    · rw [if_pos h, if_pos ⟨h.1, (group_ln hn w0 ws).mpr h.2⟩]
      unfold gD dGrp dI
      rw [dWs_ln (lo := 0) (hi := (n : Int) - 1) (by decide) (show (n : Int) - 1 ≤ 10 ^ 12 by omega) (fun w hw => by have := h.2.2.1 w hw; omega), pn_eq (lo := 1) (hi := 10 ^ 12) (by decide) (by decide) h.2.1]; rfl
    · rw [if_neg h, if_neg fun e => h ⟨e.1, (group_ln hn w0 ws).mp e.2⟩]
theorem lgD_cases (n : Nat) (a : List Nat) : lgD n a = .none ∨ ∃ g, lgD n a = dGrp g := by
  unfold lgD
  split
  · exact .inl rfl
  · split
    · exact .inr ⟨_, rfl⟩
    · exact .inl rfl
def dueD (d : PyData) : PyData := match piR d with
  | .inr e => .list [.str "told", e]
  | .inl o => .list [.str "bad", oD o]
end Pv

namespace Pv
open PySem PySem.Spec PyProof.Rows L2 SX
abbrev sGp : Stmt := topS 39
theorem scGp : FnScope ["_law_many", "_law_line", "_law_words", "_law_count", "_law_wish", "_law_word", "_law_post"] ["_law_many", "_law_line"] (defScope sGp) := ⟨rfl, rfl, rfl, by decide +kernel, rfl, by decide +kernel, by decide +kernel⟩
theorem slice_end (w : List Nat) : Txt.slice (S w) (some (-1)) none = S (w.drop (w.length - 1)) := by
  by_cases h : w = []
  · subst h; rfl
  · exact slice_last h
theorem last_drop (w : List Nat) (c : Nat) : w.getLast? = some c ↔ w.drop (w.length - 1) = [c] := by
  rcases List.eq_nil_or_concat w with rfl | ⟨b, d, rfl⟩
  · simp
  · rw [List.concat_eq_append]; simp
theorem hem_in (n : Nat) (ws : List (List Nat)) : (ws.filterMap (fun w => if 0 ≤ lnO w ∧ lnO w < n then none else some (V.int (lnO w)))).isEmpty = decide (∀ w ∈ ws, 0 ≤ lnO w ∧ lnO w < n) := by
  induction ws with
  | nil => simp
  | cons w ws ih =>
    rw [List.filterMap_cons]
    by_cases y : 0 ≤ lnO w ∧ lnO w < n
    · rw [if_pos y]; dsimp only; rw [ih]
      exact decide_eq_decide.mpr ⟨fun h v hv => (List.mem_cons.mp hv).elim (fun e => e ▸ y) (h v), fun h v hv => h v (List.mem_cons_of_mem _ hv)⟩
    · rw [if_neg y]
      exact (decide_eq_false fun h => y (h w (List.mem_cons_self ..))).symm
section
variable {P : Program} {w : World} {K : PySem.W.Frag} {mg : Str → Option Value} {base : Heap}
def spGp (K : PySem.W.Frag) : Sp := fun vs H Q _ => ∃ (n : Nat) (a : List Nat), vs = [.int n, .str (S a)] ∧ n ≤ 50 ∧ a.length ≤ 640 ∧ ∀ H' x, Same H H' → Dp K H' x (lgD n a) → Q x H'
set_option maxHeartbeats 4000000 in
theorem ok_Gp {f fNu : Addr} {fd fdNu : FuncData} (F : Fun K "_law_group" "_law_group" sGp f fd)
    (FNu : Fun K "_law_number" "_law_number" sNu fNu fdNu) (bNu : Binds K fdNu ["_law_word"] []) (gNu : mg "_law_number" = some (.ref fNu)) (GNu : FnOk P w K mg base CX0 1 fNu fdNu ["_law_word"] spNu)
    (m_len : mg "len" = none) (m_set : mg "set" = none) (m_tuple : mg "tuple" = none) :
    FnOk P w K mg base CX0 2 f fd ["_law_many", "_law_line"] (spGp K) := by
  refine F.ok scGp (fun vs H Q E h => ?_) (fun cdv A outer s H vs Q E hr h => ?_)
  · obtain ⟨n, a, rfl, _⟩ := h; rfl
  · obtain ⟨n, a, rfl, hn, hl, q⟩ := h
    have hu64 : (A.deeper (envOfC "_law_group" (defScope sGp) s.heap.objs.size f cdv)).units + 64 < cLine := by have := hr.un; omega
    have hu0 : (A.deeper (envOfC "_law_group" (defScope sGp) s.heap.objs.size f cdv)).units < cLine := by have := hr.un; omega
    refine ⟨_, pss_cons (ps_set (i := 2) scGp.nd rfl (.inl rfl) (pe_m1 PySem.F.slot_str_split PySem.F.type_str_split mt_splitQ (pv 1) (pe_str)))
      (pss_cons (ps_if (pt_cmpR op_ne (pe_slice C8.sl_txt (pe_ix ix_list (pv 2) (pe_int) (fun _ _ => rfl)) (po_some (pe_un un_neg (pe_int))) po_none) (pe_str) (nomark _))
        (pss_one (ps_ret (pe_non))) pss_nil)
      (pss_cons (ps_par (i := 3) (j := 4) rfl scGp.nd rfl rfl (by decide) rfl rfl (pa_cons (pe_call GNu (hr.mono (by omega)) (by rfl) gNu FNu.kp bNu .nil pass0 (pa_cons (pe_slice C8.sl_txt (pe_ix ix_list (pv 2) (pe_int) (fun _ _ => rfl)) po_none (po_some (pe_un un_neg (pe_int)))) pa_nil)) (pa_cons (pe_lc (own := [("_law_word", 5)]) (g := gName 5) (tt := tYes) (te := tCall spNu [] E0 (tCons (tVar 5) tNil)) rfl scGp.nd (pi_list (pe_slice sl_list (pv 2) (po_some (pe_int)) po_none)) (blkOk_by (N := ["_law_many", "_law_line", "_law_words", "_law_count", "_law_wish", "_law_word", "_law_post"]) (sc := defScope sGp) (by decide +kernel)) (fun _ _ _ _ _ => pg_name (i := 5) scGp.nd rfl (.inl rfl)) (fun _ _ _ _ _ => pts_nil) (fun _ _ _ _ _ => pe_call GNu (hr.mono (by omega)) (by rfl) gNu FNu.kp bNu .nil pass0 (pa_cons (pv 5) pa_nil))) pa_nil)) rfl)
      (pss_cons (ps_if (PW.pt (pw_or (pt_not (pt_chain op_le op_le (pe_int) (pv 3) (pe_op op_pow (pe_int) (pe_int)))) (pw_or1 (pt_cmpR (op_neNil hu0) (pe_lc (own := [("_law_post", 6)]) (g := gName 6) (tt := tNot (tB (tChain (rI0 fun i j => .bl (decide (i ≤ j))) (rI0 fun i j => .bl (decide (i < j))) (tC (.int 0)) (tVar 6) (tVar 0)))) (te := tVar 6) rfl scGp.nd (pi_list (pv 4)) (blkOk_by (N := ["_law_many", "_law_line", "_law_words", "_law_count", "_law_wish", "_law_word", "_law_post"]) (sc := defScope sGp) (by decide +kernel)) (fun _ _ _ _ _ => pg_name (i := 6) scGp.nd rfl (.inl rfl)) (fun _ _ _ _ _ => pts_one (pt_not (pt_chain op_le op_lt (pe_int) (pv 6) (pv 0)))) (fun _ _ _ _ _ => pv 6)) (pe_lst (pa_nil)) (nomark _)))))
        (pss_one (ps_ret (pe_non))) pss_nil)
      (pss_one (ps_ret (pe_ifExp (pt_cmpR op_eq (pe_callB call_lenQ (by rfl) m_len PySem.boot_len (pa_cons (pv 4) pa_nil)) (pe_callB cr_lenSet (by rfl) m_len PySem.boot_len (pa_cons (pe_callTy (cr_setLW rfl) (by rfl) m_set (by decide +kernel) (pa_cons (pv 4) pa_nil)) pa_nil)) (nomark _)) (pe_tup (pa_cons (pe_callTy call_tupQ (by rfl) m_tuple (by decide +kernel) (pa_cons (pv 4) pa_nil)) (pa_cons (pv 3) pa_nil))) (pe_non))))))), ?_⟩
    have hl6 : (S a).length + 2 ≤ sizeLine := by rw [S_len]; exact small6 (by omega)
    refine ⟨.str (S a), rfl, ⟨_, rfl⟩, _, _, rfl, rfl, rfl, hl6, fun p np => ?_⟩
    rw [show Str.ofString " " = S [32] from rfl, split_wds (by decide)]
    obtain ⟨w0, ws, ew⟩ := wds_cons 32 a
    have wl := wds_len 32 a
    have we : ∀ w ∈ ws, w.length ≤ 640 := fun w hw => by have := wds_each (c := 32) (a := a) (w := w) (by rw [ew]; exact List.mem_cons_of_mem _ hw); omega
    have w0l : w0.length ≤ 640 := by have := wds_each (c := 32) (a := a) (w := w0) (by rw [ew]; exact List.mem_cons_self ..); omega
    rw [ew, List.length_cons] at wl
    have q1 := q
    unfold lgD at q
    rw [ew] at q ⊢
    dsimp only at q
    have s1 := sameNew (o := .lst (((w0 :: ws).map S).map V.str)) np
    have ep : (upd H p (.lst (((w0 :: ws).map S).map V.str))) p = some (.lst (((w0 :: ws).map S).map V.str)) := upd_same
    generalize upd H p (.lst (((w0 :: ws).map S).map V.str)) = H1 at s1 ep ⊢
    have hw0 : (S w0).length ≤ sizeLine := by rw [S_len]; exact small6 (by omega)
    refine ⟨.ref p, rfl, p, _, 0, .str (S w0), rfl, rfl, SqL.of ep, atI_nat (j := 0) rfl, 1, rfl, -1, rfl, S w0, rfl, hw0, rfl, _, rfl, ?_⟩
    rw [show Str.ofString ":" = S [58] from rfl, slice_end]
    by_cases z : w0.getLast? = some 58
    · have hz : (!decide (V.str (S (w0.drop (w0.length - 1))) = V.str (S [58]))) = false := by rw [decide_eq_true (by rw [(last_drop w0 58).mp z])]; rfl
      rw [hz]
      refine iteF ?_
      have hne : w0 ≠ [] := fun y => by rw [y] at z; cases z
      refine ⟨.ref p, rfl, p, _, 0, .str (S w0), rfl, rfl, SqL.of ep, atI_nat (j := 0) rfl, 1, rfl, -1, rfl, S w0, rfl, hw0, ?_⟩
      rw [slice_drop hne]
      refine ⟨w0.dropLast, rfl, by rw [List.length_dropLast]; omega, fun _ => by rw [List.length_dropLast]; omega, fun H2 s2 => ?_⟩
      have ep2 := s2 _ _ ep
      refine ⟨.ref p, rfl, 1, rfl, slLt (SqL.of ep2) fun p2 np2 => ?_⟩
      rw [cut_tail1]
      have s3 := sameNew (o := .lst ((((w0 :: ws).map S).map V.str).drop 1)) np2
      have ep3 : (upd H2 p2 (.lst ((((w0 :: ws).map S).map V.str).drop 1))) p2 = some (.lst ((ws.map S).map V.str)) := upd_same
      generalize upd H2 p2 (.lst ((((w0 :: ws).map S).map V.str).drop 1)) = H3 at s3 ep3 ⊢
      refine ⟨p2, rfl, ⟨_, SqL.of ep3⟩, fun D nD => lc_it (walk_list (K := K) (a := p2) (xs := (ws.map S).map V.str)) (LcP H3 D ws (fun w => some (.int (lnO w)))) (.start nD) (fun j H4 _ h => SqL.of (h.1 _ _ ep3)) ?_ ?_⟩
      · rintro j x H4 H5 hj hL ⟨rfl, hx⟩
        have hx : ((ws.map S).map V.str)[j]? = some x := hx
        rw [List.getElem?_map, List.getElem?_map] at hx
        obtain ⟨z1, hz1, rfl⟩ := Option.map_eq_some_iff.mp hx
        obtain ⟨w, hw, rfl⟩ := Option.map_eq_some_iff.mp hz1
        have hwl := we w (List.mem_of_getElem? hw)
        have hjl := (List.getElem?_eq_some_iff.mp hw).1
        exact ⟨rfl, .str (S w), rfl, w, rfl, by omega, fun _ => hwl, fun H6 s6 => hL.yes nD s6 hw rfl (by omega)⟩
      rintro H4 hL
      have e4 := hL.done (by rw [List.length_map, List.length_map]; exact Nat.le_refl _)
      rw [fm_map] at e4
      have e4 : H4 D = some (.lst ((ws.map lnO).map V.int)) := by rw [e4, List.map_map]; rfl
      have s04 := (s1.trans s2).trans (s3.trans hL.1)
      refine ⟨_, _, rfl, ?_⟩
      have hcase : ∀ (b : Prop) [Decidable b], (((1 ≤ lnO w0.dropLast ∧ lnO w0.dropLast ≤ 10 ^ 12) ∧ (∀ w ∈ ws, 0 ≤ lnO w ∧ lnO w < n) ∧ (ws.map lnO).Nodup) ↔ b) → ∀ H' x, Same H4 H' → Dp K H' x (if b then dGrp (ws.map lnO, lnO w0.dropLast) else .none) → Q x H' := fun b _ hb H' x s' hx => by
        refine q _ _ (s04.trans s') ?_
        by_cases y : b
        · rw [if_pos y] at hx
          rw [if_pos ⟨z, hb.mpr y⟩]; exact hx
        · rw [if_neg y] at hx
          rw [if_neg fun e => y (hb.mp e.2)]; exact hx
      have hno : ∀ H', Same H4 H' → ¬ ((1 ≤ lnO w0.dropLast ∧ lnO w0.dropLast ≤ 10 ^ 12) ∧ (∀ w ∈ ws, 0 ≤ lnO w ∧ lnO w < n) ∧ (ws.map lnO).Nodup) → Q .non H' := fun H' s' hn' => hcase False ⟨hn', False.elim⟩ H' .non s' (by rw [if_neg (fun e => e)]; exact .non)
      refine ⟨.int (lnO w0.dropLast), rfl, _, _, rfl, rfl, _, rfl, ?_⟩
      have hcnt : ∀ b : Bool, b = decide (1 ≤ lnO w0.dropLast ∧ lnO w0.dropLast ≤ 10 ^ 12) → True := fun _ _ => trivial
      refine ite2 (fun h1 => ?_) (fun h1 => ?_)
      rotate_left
      · have h1 : ¬ 1 ≤ lnO w0.dropLast := by simpa using h1
        exact ⟨_, rfl, iteT (hno _ (Same.refl _) fun e => h1 e.1.1)⟩
      refine ⟨_, _, rfl, rfl, ⟨by decide, by decide, by decide⟩, _, _, rfl, rfl, ?_⟩
      have h1 : 1 ≤ lnO w0.dropLast := of_decide_eq_true h1
      refine ⟨_, rfl, ?_⟩
      have e12 : ((10 : Int) ^ (12 : Int).toNat) = 10 ^ 12 := rfl
      rw [e12]
      by_cases h2 : lnO w0.dropLast ≤ 10 ^ 12
      rotate_left
      · rw [decide_eq_false h2]
        exact iteT (hno _ (Same.refl _) fun e => h2 e.1.2)
      rw [decide_eq_true h2]
      refine iteF ?_
      refine ⟨.ref D, rfl, D, rfl, ⟨_, SqL.of e4⟩, fun D2 nD2 => lc_it (walk_list (K := K) (a := D) (xs := (ws.map lnO).map V.int)) (LcP H4 D2 ws (fun w => if 0 ≤ lnO w ∧ lnO w < n then none else some (.int (lnO w)))) (.start nD2) (fun j H5 _ h => SqL.of (h.1 _ _ e4)) ?_ ?_⟩
      · rintro j x H5 H6 hj hL2 ⟨rfl, hx⟩
        have hx : ((ws.map lnO).map V.int)[j]? = some x := hx
        rw [List.getElem?_map, List.getElem?_map] at hx
        obtain ⟨z1, hz1, rfl⟩ := Option.map_eq_some_iff.mp hx
        obtain ⟨w, hw, rfl⟩ := Option.map_eq_some_iff.mp hz1
        have hjl := (List.getElem?_eq_some_iff.mp hw).1
        refine ⟨rfl, .int (lnO w), rfl, _, _, rfl, rfl, _, rfl, ?_⟩
        refine ite2 (fun k1 => ?_) (fun k1 => ?_)
        rotate_left
        · have k1 : ¬ 0 ≤ lnO w := by simpa using k1
          exact ⟨_, rfl, iteT ⟨_, rfl, hL2.yes nD2 (Same.refl _) hw (by rw [if_neg fun e => k1 e.1]) (by omega)⟩⟩
        have k1 : 0 ≤ lnO w := of_decide_eq_true k1
        refine ⟨.int n, rfl, _, _, rfl, rfl, _, rfl, ?_⟩
        by_cases k2 : lnO w < n
        · rw [decide_eq_true k2]
          exact iteF (hL2.no (Same.refl _) hw (by rw [if_pos ⟨k1, k2⟩]))
        · rw [decide_eq_false k2]
          exact iteT ⟨_, rfl, hL2.yes nD2 (Same.refl _) hw (by rw [if_neg fun e => k2 e.2]) (by omega)⟩
      rintro H5 hL2
      have e5 := hL2.done (by rw [List.length_map, List.length_map]; exact Nat.le_refl _)
      have eD5 := hL2.1 _ _ e4
      refine ⟨Nat.zero_le _, fun p3 np3 => ⟨D2, p3, _, rfl, rfl, SqL.of (upNew np3 e5), SqL.of upd_same, ?_⟩⟩
      have s45 := hL2.1.trans (sameNew (o := .lst []) np3)
      have eD6 := (sameNew (o := .lst []) np3) _ _ eD5
      generalize upd H5 p3 (.lst []) = H6 at s45 eD6 ⊢
      rw [hem_in]
      refine ⟨_, rfl, ?_⟩
      by_cases h3 : ∀ w ∈ ws, 0 ≤ lnO w ∧ lnO w < n
      rotate_left
      · rw [decide_eq_false h3]
        exact iteT (hno _ s45 fun e => h3 e.2.1)
      rw [decide_eq_true h3]
      refine iteF ?_
      have lw : (ws.map lnO).length = ws.length := List.length_map ..
      refine ⟨.ref D, rfl, D, _, rfl, .inl (SqL.of eD6), .ref D, rfl, D, ws.map lnO, rfl, SqL.of eD6, by omega, fun p4 c np4 ⟨ks, k1, k2, k3⟩ k4 => ⟨p4, _, _, rfl, upd_same, rfl, _, rfl, ?_⟩⟩
      have hcn : c = (ws.map lnO).length ↔ (ws.map lnO).Nodup := by rw [← k3]; exact len_nodup k1 k2
      have s4 := s45.trans (sameNew (o := SetO w p4 (fun j => decide (j ∈ ws.map lnO)) c) np4)
      have eD7 := (sameNew (o := SetO w p4 (fun j => decide (j ∈ ws.map lnO)) c) np4) _ _ eD6
      by_cases h4 : c = (ws.map lnO).length
      · have hz4 : decide (V.int (((ws.map lnO).map V.int).length : Nat) = V.int c) = true := decide_eq_true (by rw [h4, List.length_map])
        rw [hz4]
        refine iteT ⟨.ref D, rfl, D, _, rfl, .inl ⟨SqL.of eD7, fun T nT => ⟨.int (lnO w0.dropLast), rfl, (show (2 : Nat) ≤ sizeLine by decide), fun T2 nT2 => ?_⟩⟩⟩
        have sT := sameNew (o := .tup ((ws.map lnO).map V.int)) nT
        have sT2 := sameNew (o := .tup [.ref T, .int (lnO w0.dropLast)]) nT2
        refine hcase True ⟨fun _ => trivial, fun _ => ⟨⟨h1, h2⟩, h3, hcn.mp h4⟩⟩ _ _ ((s4.trans sT).trans sT2) ?_
        rw [if_pos trivial]
        exact .tup (.inl (.inl upd_same)) (.cons (dI_sq ((TupK.of sT2).sq (SqT.of upd_same))) (.cons (.int _) .nil))
      · have hz4 : decide (V.int (((ws.map lnO).map V.int).length : Nat) = V.int c) = false := decide_eq_false fun e => h4 (by
          have := V.int.inj e
          rw [List.length_map] at this
          omega)
        rw [hz4]
        exact iteF (hno _ s4 fun e => h4 (hcn.mpr e.2.2))
    · have hz : (!decide (V.str (S (w0.drop (w0.length - 1))) = V.str (S [58]))) = true := by rw [decide_eq_false (fun e => z ((last_drop w0 58).mpr (S_inj (V.str.inj e))))]; rfl
      rw [hz]
      rw [if_neg fun e => z e.1] at q
      exact iteT (q _ _ s1 .non)
end
end Pv

namespace Pv
open PySem PySem.Spec PyProof.Rows L2 SX
abbrev sDu : Stmt := topS 40
theorem scDu : FnScope ["_law_value", "_law_lines", "_law_words", "_law_sizes", "_law_rows", "_law_index", "_law_row", "_law_word", "_law_size"] ["_law_value"] (defScope sDu) := ⟨rfl, rfl, rfl, by decide +kernel, rfl, by decide +kernel, by decide +kernel⟩
theorem hem_out (ws : List (List Nat)) : (ws.filterMap (fun w => if 1 ≤ lnO w ∧ lnO w ≤ 10 ^ 12 then none else some (V.int (lnO w)))).isEmpty = decide (∀ w ∈ ws, 1 ≤ lnO w ∧ lnO w ≤ 10 ^ 12) := by
  induction ws with
  | nil => simp
  | cons w ws ih =>
    rw [List.filterMap_cons]
    by_cases y : 1 ≤ lnO w ∧ lnO w ≤ 10 ^ 12
    · rw [if_pos y]; dsimp only; rw [ih]
      exact decide_eq_decide.mpr ⟨fun h v hv => (List.mem_cons.mp hv).elim (fun e => e ▸ y) (h v), fun h v hv => h v (List.mem_cons_of_mem _ hv)⟩
    · rw [if_neg y]
      exact (decide_eq_false fun h => y (h w (List.mem_cons_self ..))).symm
section
variable {P : Program} {w : World} {K : PySem.W.Frag} {mg : Str → Option Value} {base : Heap}
def spDu (K : PySem.W.Frag) : Sp := fun vs H Q _ => ∃ (st r : Addr) (v : V) (d : PyData), vs = [v] ∧ Dq K st r H v d ∧ (∀ a, d = .str (S a) → a.length ≤ 80000 ∧ RB nl 640 a) ∧ ∀ H' p, Same H H' → Dp K H' (.ref p) (dueD d) → Q (.ref p) H'
set_option maxHeartbeats 8000000 in
theorem ok_Du {f fNu fGp : Addr} {fd fdNu fdGp : FuncData} (F : Fun K "_law_due" "_law_due" sDu f fd)
    (FNu : Fun K "_law_number" "_law_number" sNu fNu fdNu) (bNu : Binds K fdNu ["_law_word"] []) (gNu : mg "_law_number" = some (.ref fNu)) (GNu : FnOk P w K mg base CX0 1 fNu fdNu ["_law_word"] spNu)
    (FGp : Fun K "_law_group" "_law_group" sGp fGp fdGp) (bGp : Binds K fdGp ["_law_many", "_law_line"] []) (gGp : mg "_law_group" = some (.ref fGp)) (GGp : FnOk P w K mg base CX0 2 fGp fdGp ["_law_many", "_law_line"] (spGp K))
    (m_str : mg "str" = none) (m_isinstance : mg "isinstance" = none) (m_len : mg "len" = none) (m_range : mg "range" = none) (m_tuple : mg "tuple" = none) :
    FnOk P w K mg base CX0 3 f fd ["_law_value"] (spDu K) := by
  refine F.ok scDu (fun vs H Q E h => ?_) (fun cdv A outer s H vs Q E hr h => ?_)
  · obtain ⟨st, r, v, d, rfl, _⟩ := h; rfl
  · obtain ⟨st, r, v, d, rfl, hv, hsz, q⟩ := h
    have hu64 : (A.deeper (envOfC "_law_due" (defScope sDu) s.heap.objs.size f cdv)).units + 64 < cLine := by have := hr.un; omega
    have hu0 : (A.deeper (envOfC "_law_due" (defScope sDu) s.heap.objs.size f cdv)).units < cLine := by have := hr.un; omega
    refine ⟨_, pss_cons (ps_if (pt_not (pt_val (pe_callB call_isi (by rfl) m_isinstance (by decide +kernel) (pa_cons (pv 0) (pa_cons (pe_bltn (v := .ty "str") (by rfl) m_str (by decide +kernel) rfl) pa_nil)))))
        (pss_one (ps_ret (pe_lst (pa_cons (pe_str) (pa_cons (pe_non) pa_nil))))) pss_nil)
      (pss_cons (ps_set (i := 1) scDu.nd rfl (.inl rfl) (pe_m1 PySem.F.slot_str_split PySem.F.type_str_split mt_splitQ (pv 0) (pe_str)))
      (pss_cons (ps_set (i := 2) scDu.nd rfl (.inl rfl) (pe_m1 PySem.F.slot_str_split PySem.F.type_str_split mt_splitQ (pe_ix ix_list (pv 1) (pe_int) (fun _ _ => rfl)) (pe_str)))
      (pss_cons (ps_setLc (i := 3) (own := [("_law_word", 7)]) (g := gName 7) (tt := tYes) (te := tCall spNu [] E0 (tCons (tVar 7) tNil)) rfl scDu.nd rfl rfl (sw_true rfl rfl rfl (by decide +kernel)) (pi_list (pe_slice sl_list (pv 2) (po_some (pe_int)) po_none)) (blkOk_by (N := ["_law_value", "_law_lines", "_law_words", "_law_sizes", "_law_rows", "_law_index", "_law_row", "_law_word", "_law_size"]) (sc := defScope sDu) (by decide +kernel)) (fun _ _ _ _ _ => pg_name (i := 7) scDu.nd rfl (.inl rfl)) (fun _ _ _ _ _ => pts_nil) (fun _ _ _ _ _ => pe_call GNu (hr.mono (by omega)) (by rfl) gNu FNu.kp bNu .nil pass0 (pa_cons (pv 7) pa_nil)))
      (pss_cons (ps_if (PW.pt (pw_or (pt_cmpR op_ne (pe_ix ix_list (pv 2) (pe_int) (fun _ _ => rfl)) (pe_str) (nomark _)) (pw_or (pt_not (pt_chain op_le op_le (pe_int) (pe_callB call_lenQ (by rfl) m_len PySem.boot_len (pa_cons (pv 3) pa_nil)) (pe_int))) (pw_or1 (pt_cmpR (op_neNil hu0) (pe_lc (own := [("_law_size", 8)]) (g := gName 8) (tt := tNot (tB (tChain (rI0 fun i j => .bl (decide (i ≤ j))) (rI0 fun i j => .bl (decide (i ≤ j))) (tC (.int 1)) (tVar 8) (tOp (rI CPow fun i j => .int (i ^ j.toNat)) (tC (.int 10)) (tC (.int 12)))))) (te := tVar 8) rfl scDu.nd (pi_list (pv 3)) (blkOk_by (N := ["_law_value", "_law_lines", "_law_words", "_law_sizes", "_law_rows", "_law_index", "_law_row", "_law_word", "_law_size"]) (sc := defScope sDu) (by decide +kernel)) (fun _ _ _ _ _ => pg_name (i := 8) scDu.nd rfl (.inl rfl)) (fun _ _ _ _ _ => pts_one (pt_not (pt_chain op_le op_le (pe_int) (pv 8) (pe_op op_pow (pe_int) (pe_int))))) (fun _ _ _ _ _ => pv 8)) (pe_lst (pa_nil)) (nomark _))))))
        (pss_one (ps_ret (pe_lst (pa_cons (pe_str) (pa_cons (pe_int) pa_nil))))) pss_nil)
      (pss_cons (ps_set (i := 4) scDu.nd rfl (.inl rfl) (pe_lst (pa_nil)))
      (pss_cons (ps_for PassesOwn.never rfl (pi_range2 (by rfl) m_range (pa_cons (pe_int) (pa_cons (pe_callB call_lenQ (by rfl) m_len PySem.boot_len (pa_cons (pv 1) pa_nil)) pa_nil))) (pg_name (i := 5) scDu.nd rfl (.inl rfl))
        (pss_cons (ps_set (i := 6) scDu.nd rfl (.inl rfl) (pe_call GGp (hr.mono (by omega)) (by rfl) gGp FGp.kp bGp .nil pass0 (pa_cons (pe_callB call_lenQ (by rfl) m_len PySem.boot_len (pa_cons (pv 3) pa_nil)) (pa_cons (pe_ix ix_list (pv 1) (pv 5) (fun _ _ => rfl)) pa_nil))))
        (pss_cons (ps_if (PW.pt (pw_or (pt_cmp (pc_isN (pv 6))) (pw_or1 (pt_cmpR op_gt (pv 5) (pe_int) (nomark _)))))
          (pss_one (ps_ret (pe_lst (pa_cons (pe_str) (pa_cons (pv 5) pa_nil))))) pss_nil)
        (pss_one (ps_expr (pe_bm PySem.F.plainAttrs_list PySem.F.slot_list_append PySem.F.type_list_append mt_append (pv 4) (pa_cons (pv 6) pa_nil)))))))
      (pss_one (ps_ret (pe_ifExp (pt_cmpR (op_neNil hu0) (pv 4) (pe_lst (pa_nil)) (nomark _)) (pe_lst (pa_cons (pe_str) (pa_cons (pe_tup (pa_cons (pe_callTy call_tupQ (by rfl) m_tuple (by decide +kernel) (pa_cons (pv 3) pa_nil)) (pa_cons (pe_callTy call_tupQ (by rfl) m_tuple (by decide +kernel) (pa_cons (pv 4) pa_nil)) pa_nil))) pa_nil))) (pe_lst (pa_cons (pe_str) (pa_cons (pe_int) pa_nil)))))))))))), ?_⟩
    have bad0 : ∀ (o : Option Int), piR d = .inl o → ∀ (H' : Hp) (p : Addr), Same H H' → H' p = none → Q (.ref p) (upd H' p (.lst [.str "bad", oV o])) := fun o ho H' p s' np => by
      refine q _ p (s'.trans (sameNew np)) ?_
      unfold dueD
      rw [ho]
      exact .lst (SqL.of upd_same) (.cons (.str _) (.cons (oV_oD _) .nil))
    refine ⟨v, rfl, v, .ty "str", _, _, _, rfl, .ty _, hv.ty, kit_strD d, _, rfl, ?_⟩
    cases hd : isStrD d with
    | false =>
      refine iteT ⟨(show (2 : Nat) ≤ sizeLine by decide), fun p np => ?_⟩
      exact bad0 none (by cases d <;> first | rfl | cases hd) _ p (Same.refl _) np
    | true =>
      refine iteF ?_
      cases d with
      | str z => ?_
      | _ => cases hd
      cases hv
      obtain ⟨a, rfl⟩ : ∃ a, z = S a := ⟨_, (S_of z).symm⟩
      obtain ⟨hsz, hrb⟩ := hsz a rfl
      have hl6 : (S a).length + 2 ≤ sizeLine := by rw [S_len]; exact small6 (by omega)
      refine ⟨.str (S a), rfl, ⟨_, rfl⟩, _, _, rfl, rfl, rfl, hl6, fun p np => ?_⟩
      rw [show Str.ofString "\n" = S [10] from rfl, split_wds (by decide)]
      obtain ⟨l0, ls, el⟩ := wds_cons 10 a
      have wl := wds_len 10 a
      have we : ∀ w ∈ l0 :: ls, w.length ≤ 640 := fun w hw => hrb.line (by rw [el]; exact hw)
      rw [el, List.length_cons] at wl
      have eR : piR (.str (S a)) = piT a := rfl
      unfold piT at eR
      rw [el] at eR ⊢
      dsimp only at eR
      rw [pp_lp] at eR
      have s1 := sameNew (o := .lst (((l0 :: ls).map S).map V.str)) np
      have ep : (upd H p (.lst (((l0 :: ls).map S).map V.str))) p = some (.lst (((l0 :: ls).map S).map V.str)) := upd_same
      generalize upd H p (.lst (((l0 :: ls).map S).map V.str)) = H1 at s1 ep ⊢
      have l0l := we l0 (List.mem_cons_self ..)
      refine ⟨.ref p, rfl, p, _, 0, .str (S l0), rfl, rfl, SqL.of ep, atI_nat (j := 0) rfl, ⟨_, rfl⟩, _, _, rfl, rfl, rfl, by rw [S_len]; exact small6 (by omega), fun p1 np1 => ?_⟩
      rw [show Str.ofString " " = S [32] from rfl, split_wds (by decide)]
      obtain ⟨w0, ws, ew⟩ := wds_cons 32 l0
      have wwl := wds_len 32 l0
      have wwe : ∀ w ∈ ws, w.length ≤ 640 := fun w hw => by have := wds_each (c := 32) (a := l0) (w := w) (by rw [ew]; exact List.mem_cons_of_mem _ hw); omega
      rw [ew, List.length_cons] at wwl
      have elp : lpD l0 = if w0 = [112, 111, 115, 116, 115] ∧ 1 ≤ ws.length ∧ ws.length ≤ 6 ∧ ∀ w ∈ ws, 1 ≤ lnO w ∧ lnO w ≤ 10 ^ 12 then dI (ws.map lnO) else .none := by
        unfold lpD
        rw [ew]
      rw [ew]
      have s2 := s1.trans (sameNew (o := .lst (((w0 :: ws).map S).map V.str)) np1)
      have ep2 := (sameNew (o := .lst (((w0 :: ws).map S).map V.str)) np1) _ _ ep
      have ew2 : (upd H1 p1 (.lst (((w0 :: ws).map S).map V.str))) p1 = some (.lst (((w0 :: ws).map S).map V.str)) := upd_same
      generalize upd H1 p1 (.lst (((w0 :: ws).map S).map V.str)) = H2 at s2 ep2 ew2 ⊢
      refine ⟨.ref p1, rfl, 1, rfl, slLt (SqL.of ew2) fun p2 np2 => ?_⟩
      rw [cut_tail1]
      have s3 := sameNew (o := .lst ((((w0 :: ws).map S).map V.str).drop 1)) np2
      have e23 : (upd H2 p2 (.lst ((((w0 :: ws).map S).map V.str).drop 1))) p2 = some (.lst ((ws.map S).map V.str)) := upd_same
      generalize upd H2 p2 (.lst ((((w0 :: ws).map S).map V.str).drop 1)) = H3 at s3 e23 ⊢
      refine ⟨p2, rfl, ⟨_, SqL.of e23⟩, fun D nD => lc_it (walk_list (K := K) (a := p2) (xs := (ws.map S).map V.str)) (LcP H3 D ws (fun w => some (.int (lnO w)))) (.start nD) (fun j H4 _ h => SqL.of (h.1 _ _ e23)) ?_ ?_⟩
      · rintro j x H4 H5 hj hL ⟨rfl, hx⟩
        have hx : ((ws.map S).map V.str)[j]? = some x := hx
        rw [List.getElem?_map, List.getElem?_map] at hx
        obtain ⟨z1, hz1, rfl⟩ := Option.map_eq_some_iff.mp hx
        obtain ⟨w, hw, rfl⟩ := Option.map_eq_some_iff.mp hz1
        have hwl := wwe w (List.mem_of_getElem? hw)
        have hjl := (List.getElem?_eq_some_iff.mp hw).1
        exact ⟨rfl, .str (S w), rfl, w, rfl, by omega, fun _ => hwl, fun H6 s6 => hL.yes nD s6 hw rfl (by omega)⟩
      rintro H4 hL
      have e4 := hL.done (by rw [List.length_map, List.length_map]; exact Nat.le_refl _)
      rw [fm_map] at e4
      have e4 : H4 D = some (.lst ((ws.map lnO).map V.int)) := by rw [e4, List.map_map]; rfl
      have s24 := s3.trans hL.1
      have s04 := s2.trans s24
      have ep4 := s24 _ _ ep2
      have ew4 := s24 _ _ ew2
      have lw : (ws.map lnO).length = ws.length := List.length_map ..
      have bad1 : ∀ H', Same H4 H' → ¬ (w0 = [112, 111, 115, 116, 115] ∧ 1 ≤ ws.length ∧ ws.length ≤ 6 ∧ ∀ w ∈ ws, 1 ≤ lnO w ∧ lnO w ≤ 10 ^ 12) → ∀ p, H' p = none → Q (.ref p) (upd H' p (.lst [.str "bad", .int 0])) := fun H' s' hn p np => by
        rw [if_neg hn] at elp
        rw [elp, if_pos (show isNd PyData.none = true from rfl)] at eR
        exact bad0 (some 0) eR _ p (s04.trans s') np
      -- the first word
      refine ⟨.ref p1, rfl, p1, _, 0, .str (S w0), rfl, rfl, SqL.of ew4, atI_nat (j := 0) rfl, rfl, _, rfl, ?_⟩
      have two : (2 : Nat) ≤ sizeLine := by decide
      by_cases hw0 : w0 = [112, 111, 115, 116, 115]
      rotate_left
      · have hz : (!decide (V.str (S w0) = V.str (Str.ofString "posts"))) = true := by rw [show decide (V.str (S w0) = V.str (Str.ofString "posts")) = false from decide_eq_false fun e => hw0 (S_inj (V.str.inj e))]; rfl
        rw [hz]
        exact iteT (iteT ⟨two, fun p np => bad1 _ (Same.refl _) (fun e => hw0 e.1) p np⟩)
      have hz : (!decide (V.str (S w0) = V.str (Str.ofString "posts"))) = false := by rw [show decide (V.str (S w0) = V.str (Str.ofString "posts")) = true from decide_eq_true (by rw [hw0]; rfl)]; rfl
      rw [hz]
      refine iteF ?_
      refine ⟨.ref D, rfl, D, _, rfl, .inl (SqL.of e4), _, _, rfl, rfl, _, rfl, ?_⟩
      rw [List.length_map, lw]
      by_cases h1 : 1 ≤ ws.length
      rotate_left
      · rw [decide_eq_false (by omega)]
        exact iteF ⟨_, rfl, iteT (iteT ⟨two, fun p np => bad1 _ (Same.refl _) (fun e => h1 e.2.1) p np⟩)⟩
      rw [decide_eq_true (by omega)]
      refine iteT ⟨_, _, rfl, rfl, _, rfl, ?_⟩
      by_cases h6 : ws.length ≤ 6
      rotate_left
      · rw [decide_eq_false (by omega)]
        exact iteT (iteT ⟨two, fun p np => bad1 _ (Same.refl _) (fun e => h6 e.2.2.1) p np⟩)
      rw [decide_eq_true (by omega)]
      refine iteF ?_
      refine ⟨.ref D, rfl, D, rfl, ⟨_, SqL.of e4⟩, fun D2 nD2 => lc_it (walk_list (K := K) (a := D) (xs := (ws.map lnO).map V.int)) (LcP H4 D2 ws (fun w => if 1 ≤ lnO w ∧ lnO w ≤ 10 ^ 12 then none else some (.int (lnO w)))) (.start nD2) (fun j H5 _ h => SqL.of (h.1 _ _ e4)) ?_ ?_⟩
      · rintro j x H5 H6 hj hL2 ⟨rfl, hx⟩
        have hx : ((ws.map lnO).map V.int)[j]? = some x := hx
        rw [List.getElem?_map, List.getElem?_map] at hx
        obtain ⟨z1, hz1, rfl⟩ := Option.map_eq_some_iff.mp hx
        obtain ⟨w, hw, rfl⟩ := Option.map_eq_some_iff.mp hz1
        have hjl := (List.getElem?_eq_some_iff.mp hw).1
        refine ⟨rfl, .int (lnO w), rfl, _, _, rfl, rfl, _, rfl, ?_⟩
        refine ite2 (fun k1 => ?_) (fun k1 => ?_)
        rotate_left
        · have k1 : ¬ 1 ≤ lnO w := by simpa using k1
          exact ⟨_, rfl, iteT ⟨_, rfl, hL2.yes nD2 (Same.refl _) hw (by rw [if_neg fun e => k1 e.1]) (by omega)⟩⟩
        have k1 : 1 ≤ lnO w := of_decide_eq_true k1
        refine ⟨_, _, rfl, rfl, ⟨by decide, by decide, by decide⟩, _, _, rfl, rfl, _, rfl, ?_⟩
        rw [show ((10 : Int) ^ (12 : Int).toNat) = 10 ^ 12 from rfl]
        by_cases k2 : lnO w ≤ 10 ^ 12
        · rw [decide_eq_true k2]
          exact iteF (hL2.no (Same.refl _) hw (by rw [if_pos ⟨k1, k2⟩]))
        · rw [decide_eq_false k2]
          exact iteT ⟨_, rfl, hL2.yes nD2 (Same.refl _) hw (by rw [if_neg fun e => k2 e.2]) (by omega)⟩
      rintro H5 hL2
      have e5 := hL2.done (by rw [List.length_map, List.length_map]; exact Nat.le_refl _)
      have eD5 := hL2.1 _ _ e4
      refine ⟨Nat.zero_le _, fun p3 np3 => ⟨D2, p3, _, rfl, rfl, SqL.of (upNew np3 e5), SqL.of upd_same, ?_⟩⟩
      have s45 := hL2.1.trans (sameNew (o := .lst []) np3)
      have eD6 := (sameNew (o := .lst []) np3) _ _ eD5
      generalize upd H5 p3 (.lst []) = H6 at s45 eD6 ⊢
      rw [hem_out]
      refine ⟨_, rfl, ?_⟩
      by_cases h3 : ∀ w ∈ ws, 1 ≤ lnO w ∧ lnO w ≤ 10 ^ 12
      rotate_left
      · rw [decide_eq_false h3]
        exact iteT ⟨two, fun p np => bad1 _ s45 (fun e => h3 e.2.2.2) p np⟩
      rw [decide_eq_true h3]
      refine iteF ?_
      rw [if_pos ⟨hw0, h1, h6, h3⟩] at elp
      rw [elp, if_neg (show ¬ isNd (dI (ws.map lnO)) = true from fun e => by cases e), show lenD (dI (ws.map lnO)) = ws.length by simp [lenD, dI]] at eR
      have s06 := s04.trans s45
      have ep6 := s45 _ _ ep4
      refine ⟨Nat.zero_le _, fun Ls nLs => ?_⟩
      have eL : ∀ H', Same H6 H' → H' p = some (.lst (((l0 :: ls).map S).map V.str)) := fun H' s' => s' _ _ ep6
      have eDD : ∀ H', Same H6 H' → H' D = some (.lst ((ws.map lnO).map V.int)) := fun H' s' => s' _ _ eD6
      have el1 : ((((((l0 :: ls).map S).map V.str).length : Nat) : Int) - 1).toNat = ls.length := by simp
      refine ⟨.ref p, rfl, p, _, rfl, .inl (SqL.of (eL _ (sameNew nLs))), 1, _, rfl, ⟨by omega, by omega, by omega, by rw [List.length_map, List.length_map, List.length_cons]; omega⟩, for_it (walk_range (lo := 1) (n := ((((((l0 :: ls).map S).map V.str).length : Nat) : Int) - 1).toNat))
        (fun j σ H7 => ∃ (y5 y6 : Option V) (vs : List V), σ = [some (.str (S a)), some (.ref p), some (.ref p1), some (.ref D), some (.ref Ls), y5, y6, none, none] ∧ Same H6 H7 ∧ H7 Ls = some (.lst vs) ∧ DpAll K H7 vs ((ls.take j).map (pgD ws.length)) ∧ ∀ i l, i < j → ls[i]? = some l → isNd (pgD ws.length l) = false ∧ 1 + i ≤ 10)
        ⟨none, none, [], rfl, sameNew nLs, upd_same, .nil, fun i l h => by omega⟩ (fun _ _ _ _ _ => trivial) ?_ ?_⟩
      · rintro j u σ H8 H7 hlt ⟨y5, y6, vs, rfl, s7, e7, hvs, hno⟩ ⟨rfl, rfl⟩
        rw [el1] at hlt
        have hlj : ls[j]? = some ls[j] := List.getElem?_eq_getElem hlt
        have ljl := we ls[j] (List.mem_cons_of_mem _ (List.getElem_mem hlt))
        have e1 : (1 : Int) + (j : Nat) = ((1 + j : Nat) : Int) := by omega
        dsimp only
        rw [e1]
        have hpv : (((l0 :: ls).map S).map V.str)[1 + j]? = some (.str (S ls[j])) := by
          rw [List.getElem?_map, List.getElem?_map, show 1 + j = j + 1 by omega, List.getElem?_cons_succ, hlj]; rfl
        refine ⟨.ref D, rfl, D, _, rfl, .inl (SqL.of (eDD _ s7)), .ref p, rfl, .int ((1 + j : Nat) : Int), rfl, p, _, _, _, rfl, rfl, SqL.of (eL _ s7), atI_nat hpv, ws.length, ls[j], by rw [List.length_map, List.length_map]; rfl, by omega, ljl, fun H9 x s9 hx9 => ?_⟩
        rw [← pg_lg (by omega)] at hx9
        have s69 := s7.trans s9
        have s09 := s06.trans s69
        have badj : (isNd (pgD ws.length ls[j]) = true ∨ 10 < 1 + j) → ∀ H' p, Same H9 H' → H' p = none → Q (.ref p) (upd H' p (.lst [.str "bad", .int ((1 + j : Nat) : Int)])) := fun hb H' p s' np => by
          have eB := piG_bad (n := ws.length) (k := 1) hno hlj hb
          rw [eB] at eR
          exact bad0 (some ((1 + j : Nat) : Int)) eR _ p (s09.trans s') np
        rcases pgD_cases ws.length ls[j] with eg | ⟨es, eg, tes⟩
        · have hn : x = .non := by rw [eg] at hx9; cases hx9; rfl
          subst hn
          refine ⟨.non, rfl, _, rfl, ?_⟩
          rw [decide_eq_true rfl]
          exact iteT (iteT ⟨.int ((1 + j : Nat) : Int), rfl, two, fun p np => badj (.inl (by rw [eg]; rfl)) _ p (Same.refl _) np⟩)
        · have hxr : ∃ t, x = .ref t := by rw [eg] at hx9; cases hx9; exact ⟨_, rfl⟩
          obtain ⟨t6, rfl⟩ := hxr
          refine ⟨.ref t6, rfl, _, rfl, ?_⟩
          rw [decide_eq_false (fun y => by cases y)]
          refine iteF ⟨.int ((1 + j : Nat) : Int), rfl, _, _, rfl, rfl, _, rfl, ?_⟩
          by_cases h10 : (10 : Int) < ((1 + j : Nat) : Int)
          · rw [decide_eq_true h10]
            exact iteT ⟨.int ((1 + j : Nat) : Int), rfl, two, fun p np => badj (.inr (by omega)) _ p (Same.refl _) np⟩
          · rw [decide_eq_false h10]
            have e8 := s9 _ _ e7
            have lv := DpAll.len hvs
            rw [List.length_map, List.length_take] at lv
            refine iteF ⟨.ref Ls, rfl, .inl ⟨rfl, _, SqL.of e8⟩, .ref t6, rfl, Ls, _, _, rfl, rfl, e8, small (by omega), ?_⟩
            have tk := (TupK.of s9).trans (TupK.put (o := .lst (vs ++ [.ref t6])) e8)
            refine ⟨_, _, _, rfl, samePut s69 nLs, upd_same, ?_, fun i l hi hl => ?_⟩
            · rw [take_snoc hlj, List.map_append]
              exact DpAll.snoc (tk.dpAll _ _ (to_pgs _ _) hvs) ((TupK.put e8).dp _ _ (to_pg _ _) hx9)
            · by_cases y : i < j
              · exact hno i l y hl
              · have : i = j := by omega
                subst this
                rw [hlj] at hl
                cases hl
                exact ⟨by rw [eg]; rfl, by omega⟩
      · rintro σ H7 ⟨y5, y6, vs, rfl, s7, e7, hvs, hno⟩
        rw [el1] at hvs hno
        have eB := piG_ok (n := ws.length) (k := 1) (ls := ls) (fun i l hl => hno i l (List.getElem?_eq_some_iff.mp hl).1 hl)
        rw [eB] at eR
        dsimp only at eR
        rw [List.take_length] at hvs
        have lv := DpAll.len hvs
        rw [List.length_map] at lv
        refine ⟨.ref Ls, rfl, Nat.zero_le _, fun p4 np4 => ⟨Ls, p4, _, rfl, rfl, SqL.of (upNew np4 e7), SqL.of upd_same, ?_⟩⟩
        have s78 := sameNew (o := .lst []) np4
        have e8 := s78 _ _ e7
        have hvs8 := (TupK.of s78).dpAll _ _ (to_pgs _ _) hvs
        generalize upd H7 p4 (.lst []) = H8 at s78 e8 hvs8 ⊢
        have s68 := s7.trans s78
        refine ⟨_, rfl, ?_⟩
        by_cases z : ls = []
        · have hv0 : vs = [] := List.eq_nil_of_length_eq_zero (by rw [lv, z]; rfl)
          rw [hv0]
          rw [if_pos (by rw [z]; rfl)] at eR
          exact iteF ⟨two, fun p np => bad0 (some 1) eR _ p (s06.trans s68) np⟩
        · rw [if_neg (fun y => z (List.map_eq_nil_iff.mp y))] at eR
          have hv0 : (!vs.isEmpty) = true := by
            cases vs with
            | nil => exact absurd (List.eq_nil_of_length_eq_zero lv.symm) z
            | cons _ _ => rfl
          rw [hv0]
          refine iteT ⟨.ref D, rfl, D, _, rfl, .inl ⟨SqL.of (eDD _ s68), fun T1 nT1 => ?_⟩⟩
          have t1 := sameNew (o := .tup ((ws.map lnO).map V.int)) nT1
          refine ⟨.ref Ls, rfl, Ls, _, rfl, .inl ⟨SqL.of (t1 _ _ e8), fun T2 nT2 => ?_⟩⟩
          have t2 := sameNew (o := .tup vs) nT2
          refine ⟨two, fun T3 nT3 => ⟨two, fun p5 np5 => ?_⟩⟩
          have t3 := sameNew (o := .tup [.ref T1, .ref T2]) nT3
          have t4 := sameNew (o := .lst [.str "told", .ref T3]) np5
          refine q _ p5 (((s06.trans s68).trans (t1.trans t2)).trans (t3.trans t4)) ?_
          unfold dueD
          rw [eR]
          refine .lst (SqL.of upd_same) (.cons (.str _) (.cons ?_ .nil))
          refine .tup (.inl (.inl (t4 _ _ upd_same))) (.cons ?_ (.cons ?_ .nil))
          · exact dI_sq ((TupK.of ((t2.trans t3).trans t4)).sq (SqT.of upd_same))
          · exact .tup (.inl (.inl (t4 _ _ (t3 _ _ upd_same)))) ((TupK.of ((t1.trans t2).trans (t3.trans t4))).dpAll _ _ (to_pgs _ _) hvs8)
end
end Pv

namespace Pv
open PySem PySem.Spec PyProof.Rows L2 SX
abbrev sTo : Stmt := topS 41
theorem scTo : FnScope ["_law_value", "_law_told_here", "e"] ["_law_value"] (defScope sTo) := ⟨rfl, rfl, rfl, by decide +kernel, rfl, by decide +kernel, by decide +kernel⟩
section
variable {P : Program} {w : World} {K : PySem.W.Frag} {mg : Str → Option Value} {base : Heap}
theorem piG_to {n : Nat} : ∀ {ls : List (List Nat)} {k : Nat} {gs : List PyData}, piG n k ls = .inr gs → tupOnlyAll gs = true
  | [], _, _, h => by cases h; rfl
  | l :: ls, k, gs, h => by
    unfold piG at h
    split at h
    · cases h
    · cases e : piG n (k + 1) ls with
      | inl j => rw [e] at h; cases h
      | inr gs' =>
        rw [e] at h
        cases h
        simp only [tupOnlyAll, piG_to e, to_pg, Bool.and_self]
theorem to_pp (a : List Nat) : tupOnly (ppD a) = true := by
  rcases ppD_cases a with e | ⟨ds, e, _, h⟩
  · rw [e]; rfl
  · rw [e]; exact h
theorem piR_to {d e : PyData} (h : piR d = .inr e) : tupOnly e = true := by
  unfold piR at h
  split at h
  · unfold piT at h
    split at h
    · cases h
    · split at h
      · cases h
      · split at h
        · cases h
        · split at h
          · cases h
          · cases h
            rename_i hp _
            exact to_pair _ _ (to_pp _) (by simp only [tupOnly]; exact piG_to hp)
  · cases h
def spTo (K : PySem.W.Frag) : Sp := spDu K
def tsTo (K : PySem.W.Frag) (cBT cBI cBL cBN : Addr) (a : Addr) (cls : Value) (d : Option Addr) : TS :=
  tIfS (tAnd (tB (tCB (rIsX K a cls d) (tCons (tVar 2) (tCons (tC (.ref cBT)) tNil)))) (tNot (tB (tCB (rIsX K a cls d) (tCons (tVar 2) (tCons (tTup (tCons (tC (.ref cBI)) (tCons (tC (.ref cBL)) (tCons (tC (.ref cBN)) (tNil))))) tNil)))))) (tAsg (tLst (tCons (tC (.str "bad")) (tCons (tXf a cls d cBT "index" (tVar 2)) tNil))) (gName 1)) tNext
set_option maxHeartbeats 8000000 in
theorem ok_To {f fPi cVE cBT cBI cBL cBN fiBT : Addr} {fd fdPi : FuncData} (F : Fun K "_law_told" "_law_told" sTo f fd)
    (FPi : Fun K "parse_instance" "parse_instance" sPi fPi fdPi) (bPi : Binds K fdPi ["text"] []) (gPi : mg "parse_instance" = some (.ref fPi)) (GPi : FnOk P w K mg base (L2.CX P w) 7 fPi fdPi ["text"] (spPi K cBT))
    (gBT : mg "BadText" = some (.ref cBT)) (gVE : mg "VoteError" = some (.ref cVE)) (gBI : mg "BadInstance" = some (.ref cBI)) (gBL : mg "BadList" = some (.ref cBL)) (gBN : mg "BadNumber" = some (.ref cBN)) (IBT : IsC K cBT) (XBT : XF K cBT fiBT "index")
    (x1 : PySem.W.exmOne K (.ref cBT) (.ref cVE) = some true) (x2 : PySem.W.kitOne K (.ref cBT) (.ref cBT) = some true) (x3 : PySem.W.kitAny K (.ref cBT) [.ref cBI, .ref cBL, .ref cBN] = some false)
    (m_isinstance : mg "isinstance" = none) :
    FnOk P w K mg base CX0 8 f fd ["_law_value"] (spTo K) := by
  refine F.ok scTo (fun vs H Q E h => ?_) (fun cdv A outer s H vs Q E hr h => ?_)
  · obtain ⟨st, r, v, d, rfl, _⟩ := h; rfl
  · obtain ⟨st, r, v, d, rfl, hv, hsz, q⟩ := h
    refine ⟨_, pss_cons (ps_set (i := 1) scTo.nd rfl (.inl rfl) pe_non)
      (pss_cons (ps_try_as (i := 2) (tb := fun W => tAsg (tLst (tCons (tC (.str "told")) (tCons (tCallS (spPi K cBT) (WE W) (tCons (tVar 0) (tNil))) tNil))) (gName 1)) (ts := tsTo K cBT cBI cBL cBN) (Wout := fun _ _ _ _ => False) rfl rfl scTo.nd rfl rfl ⟨rfl, by decide, Or.inl gVE⟩ takes0
        (fun W pn xe tk _ => pss_one (ps_set (i := 1) scTo.nd rfl (.inl rfl) (pe_lst (pa_cons pe_str (pa_cons (by exact (pe_callS GPi (hr.mono (by omega)) rfl gPi FPi.kp bPi (fun σ => passAt tk σ) (by exact (pa_cons (pv 0) (pa_nil))))) pa_nil)))))
        (fun a oe cls d pn hz hf => by
          refine pss_one (ps_if (PW.pt (pw_and (pt_val (pe_callB (call_isX hz hf) (by rfl) m_isinstance (by decide +kernel) (pa_cons (pv 2) (pa_cons (pe_glob (v := .ref cBT) (by rfl) gBT rfl) pa_nil)))) (pw_and1 (pt_not (pt_val (pe_callB (call_isX hz hf) (by rfl) m_isinstance (by decide +kernel) (pa_cons (pv 2) (pa_cons (pe_tup (pa_cons (pe_glob (v := .ref cBI) (by rfl) gBI rfl) (pa_cons (pe_glob (v := .ref cBL) (by rfl) gBL rfl) (pa_cons (pe_glob (v := .ref cBN) (by rfl) gBN rfl) (pa_nil))))) pa_nil)))))))) (pss_one (ps_set (i := 1) scTo.nd rfl (.inl rfl) (pe_lst (pa_cons pe_str (pa_cons (pe_xf XBT.rd XBT.no hz hf (pv 2)) pa_nil))))) pss_nil)))
      (pss_one (ps_ret (pv 1)))), ?_⟩
    refine ⟨v, rfl, st, r, v, d, rfl, hv, fun a ha => (hsz a ha).1, fun e he H2 x s2 hx => ?_, fun o ho H2 dx s2 nd => ?_⟩
    · refine ⟨(show (2 : Nat) ≤ sizeLine by decide), fun p np => ⟨_, rfl, q _ p (s2.trans (sameNew np)) ?_⟩⟩
      unfold dueD
      rw [he]
      exact .lst (SqL.of upd_same) (.cons (.str _) (.cons ((TupK.of (sameNew np)).dp _ _ (piR_to he) hx) .nil))
    · refine ⟨true, x1, fun _ e ne => ?_, fun z => nomatch z⟩
      have sx := s2.trans (sameNew (o := .xd [("index", oV o)]) nd)
      refine ⟨.ref e, rfl, cBT, .ref cBT, true, rfl, IBT, (fun _ z => by cases z; exact ⟨_, upd_same⟩), rfl, .inl ⟨_, .own _, x2⟩, _, rfl, iteT ?_⟩
      refine ⟨.ref e, rfl, (show (3 : Nat) ≤ sizeLine by decide), fun T nT => ?_⟩
      refine ⟨cBT, .ref T, false, rfl, IBT, (fun _ z => by cases z; exact ⟨_, upNew nT upd_same⟩), rfl, .inr ⟨T, _, _, rfl, upd_same, .cons (.own _) (.cons (.own _) (.cons (.own _) (.nil))), x3⟩, _, rfl, iteT ?_⟩
      have sT := sx.trans (sameNew (o := .tup [.ref cBI, .ref cBL, .ref cBN]) nT)
      refine ⟨.ref e, rfl, rfl, rfl, dx, _, _, rfl, upNew nT upd_same, rfl, (show (2 : Nat) ≤ sizeLine by decide), fun p np => ?_⟩
      refine ⟨_, rfl, q _ p (sT.trans (sameNew np)) ?_⟩
      unfold dueD
      rw [ho]
      exact .lst (SqL.of upd_same) (.cons (.str _) (.cons (oV_oD _) .nil))
end
end Pv

namespace Pv
open PySem PySem.Spec PyProof.Rows L2 SX
/-! what a changed text keeps -/
theorem seq_with {t u : TS} {D : Ends} {σ : L2.St} {H : Hp} (Pre : L2.St → Hp → Prop) (rest : ∀ σ1 H1, Pre σ1 H1 → u D σ1 H1) (main : (∀ σ1 H1, Pre σ1 H1 → u D σ1 H1) → tSeq t u D σ H) : tSeq t u D σ H := main rest

structure Ch (a b : List Nat) : Prop where
  len : b.length ≤ 13 * (a.length + 20)
  nl : ∀ B, RB nl B a → RB nl (2 * B + 14) b
  dg : ∀ B, RB dg B a → RB dg (2 * B + 14) b
def txs (l : List (List Nat)) : List V := (l.map S).map V.str
theorem txs_len (l : List (List Nat)) : (txs l).length = l.length := by simp [txs]
theorem txs_at {l : List (List Nat)} {i : Nat} {w : List Nat} (h : l[i]? = some w) : (txs l)[i]? = some (.str (S w)) := by simp [txs, h]
theorem txs_set (l : List (List Nat)) (i : Nat) (w : List Nat) : (txs l).set i (.str (S w)) = txs (l.set i w) := by simp [txs, List.map_set]
theorem txs_app (l m : List (List Nat)) : txs l ++ txs m = txs (l ++ m) := by simp [txs]
theorem txs_take (l : List (List Nat)) (n : Nat) : (txs l).take n = txs (l.take n) := by simp [txs, List.map_take]
theorem txs_drop (l : List (List Nat)) (n : Nat) : (txs l).drop n = txs (l.drop n) := by simp [txs, List.map_drop]
theorem txs_rep (l : List (List Nat)) (n : Nat) : (List.replicate n (txs l)).flatten = txs (List.replicate n l).flatten := by
  induction n with
  | zero => rfl
  | succ n ih => rw [List.replicate_succ, List.replicate_succ, List.flatten_cons, List.flatten_cons, ih, txs_app]
def wt1 (l : List (List Nat)) : Nat := (l.map (·.length)).sum + l.length
theorem wt1_app (l m : List (List Nat)) : wt1 (l ++ m) = wt1 l + wt1 m := by simp [wt1]; omega
theorem wt1_take (l : List (List Nat)) (n : Nat) : wt1 (l.take n) ≤ wt1 l := by
  have := wt1_app (l.take n) (l.drop n)
  rw [List.take_append_drop] at this
  omega
theorem wt1_drop (l : List (List Nat)) (n : Nat) : wt1 (l.drop n) ≤ wt1 l := by
  have := wt1_app (l.take n) (l.drop n)
  rw [List.take_append_drop] at this
  omega
theorem wt1_wds (c : Nat) (a : List Nat) : wt1 (wds c a) = a.length + 1 := by
  have h2 := (joinL_sum (c := c) (l := wds c a)).2 (by obtain ⟨w, ws, e⟩ := wds_cons c a; rw [e]; simp)
  rw [wds_back] at h2
  unfold wt1
  omega
theorem wt1_set (l : List (List Nat)) (j : Nat) (o : List Nat) : wt1 (l.set j o) ≤ wt1 l + o.length := by
  have := sum_set_le (l := l) (j := j) (o := o)
  unfold wt1
  rw [List.length_set]
  omega
theorem wt1_mem {l : List (List Nat)} {M : Nat} (h : ∀ w ∈ l, w.length ≤ M) : wt1 l ≤ l.length * (M + 1) := by
  induction l with
  | nil => simp [wt1]
  | cons w l ih =>
    have h1 := h w (List.mem_cons_self ..)
    have h2 := ih fun v hv => h v (List.mem_cons_of_mem _ hv)
    unfold wt1 at h2 ⊢
    rw [List.map_cons, List.sum_cons, List.length_cons, Nat.succ_mul]
    omega
theorem join_wt (c : Nat) (l : List (List Nat)) : (TL.joinL [c] l).length ≤ wt1 l := by
  have := (joinL_sum (c := c) (l := l)).1
  unfold wt1
  omega
theorem ch_lines {a : List Nat} {l : List (List Nat)} (h : ∀ w ∈ l, w ∈ wds 10 a ∨ w = []) (hw : wt1 l ≤ 13 * (a.length + 20)) : Ch a (TL.joinL [10] l) := by
  refine ⟨Nat.le_trans (join_wt _ _) hw, fun B hB => ?_, fun B hB => ?_⟩
  · refine RB.join rfl fun w hm => ?_
    rcases h w hm with e | e
    · exact (hB.word e).mono (by omega)
    · exact RB.len (by rw [e]; simp)
  · refine RB.join (by decide) fun w hm => ?_
    rcases h w hm with e | e
    · exact (hB.word e).mono (by omega)
    · exact RB.len (by rw [e]; simp)
theorem ch_sign {a s : List Nat} (hs : s.length ≤ 1) (k m : Nat) : Ch a (a.take k ++ s ++ a.drop m) := by
  refine ⟨?_, fun B hB => ?_, fun B hB => ?_⟩
  · rw [List.length_append, List.length_append, List.length_take, List.length_drop]; omega
  · exact (((hB.take k).app (RB.len hs)).app (hB.drop m)).mono (by omega)
  · exact (((hB.take k).app (RB.len hs)).app (hB.drop m)).mono (by omega)
theorem ch_word {a w o : List Nat} {k j : Nat} (hw : (wds 10 a)[k]? = some w) (ho : o.length ≤ 14) : Ch a (TL.joinL [10] ((wds 10 a).set k (TL.joinL [32] ((wds 32 w).set j o)))) := by
  have hwm := List.mem_of_getElem? hw
  have hl := join_set_len 32 j w o
  have hl2 := join_set_len 10 k a (TL.joinL [32] ((wds 32 w).set j o))
  have hwl := wds_each hwm
  refine ⟨by omega, fun B hB => ?_, fun B hB => ?_⟩
  · refine RB.join rfl fun v hv => ?_
    rcases List.mem_or_eq_of_mem_set hv with e | e
    · exact (hB.word e).mono (by omega)
    · have := hB.line hwm
      exact RB.len (by rw [e]; omega)
  · refine RB.join (by decide) fun v hv => ?_
    rcases List.mem_or_eq_of_mem_set hv with e | e
    · exact (hB.word e).mono (by omega)
    · rw [e]
      refine RB.join (by decide) fun u hu => ?_
      rcases List.mem_or_eq_of_mem_set hu with f | f
      · exact ((hB.word hwm).word f).mono (by omega)
      · exact RB.len (by rw [f]; omega)
theorem ch_rep {a : List Nat} {n : Nat} (hn : n ≤ 12) : Ch a (TL.joinL [10] ((wds 10 a).take 1 ++ ((List.replicate 12 ((wds 10 a).drop 1)).flatten.take n))) := by
  have hm : ∀ w ∈ ((List.replicate 12 ((wds 10 a).drop 1)).flatten.take n), w ∈ wds 10 a := fun w hw => by
    obtain ⟨l, hl, hwl⟩ := List.mem_flatten.mp (List.mem_of_mem_take hw)
    rw [(List.mem_replicate.mp hl).2] at hwl
    exact List.mem_of_mem_drop hwl
  refine ch_lines (fun w hw => .inl ?_) ?_
  · rcases List.mem_append.mp hw with e | e
    · exact List.mem_of_mem_take e
    · exact hm w e
  · rw [wt1_app]
    have h1 := wt1_take (wds 10 a) 1
    rw [wt1_wds] at h1
    have h2 := wt1_mem (l := (List.replicate 12 ((wds 10 a).drop 1)).flatten.take n) (M := a.length) fun w hw => wds_each (hm w hw)
    have h3 : ((List.replicate 12 ((wds 10 a).drop 1)).flatten.take n).length ≤ 12 := by rw [List.length_take]; omega
    have h4 := Nat.mul_le_mul_right (a.length + 1) h3
    omega
theorem ch_three {a : List Nat} {k : Nat} {l : List (List Nat)} (h : l = (wds 10 a).take k ++ (wds 10 a).drop (k + 1) ∨ l = (wds 10 a).take (k + 1) ++ (wds 10 a).drop k ∨ l = wds 10 a ++ [[]]) : Ch a (TL.joinL [10] l) := by
  have w0 := wt1_wds 10 a
  have w1 := wt1_take (wds 10 a) k
  have w2 := wt1_take (wds 10 a) (k + 1)
  have w3 := wt1_drop (wds 10 a) k
  have w4 := wt1_drop (wds 10 a) (k + 1)
  refine ch_lines (fun w hw => ?_) ?_
  · rcases h with rfl | rfl | rfl
    · exact .inl ((List.mem_append.mp hw).elim List.mem_of_mem_take List.mem_of_mem_drop)
    · exact .inl ((List.mem_append.mp hw).elim List.mem_of_mem_take List.mem_of_mem_drop)
    · exact (List.mem_append.mp hw).elim .inl (fun e => .inr (by simpa using e))
  · rcases h with rfl | rfl | rfl
    · rw [wt1_app]; omega
    · rw [wt1_app]; omega
    · rw [wt1_app]
      have : wt1 [[]] = 1 := rfl
      omega
theorem join_ok {l : List (List Nat)} {s : Nat} (h : wt1 l ≤ 1000000) : ((l.map S).map (·.length)).sum + (l.map S).length * (S [s]).length ≤ 16777216 := by
  rw [lens, List.length_map, S_len]
  unfold wt1 at h
  simp only [List.length_cons, List.length_nil]
  omega
theorem lines_wt {a : List Nat} {l : List (List Nat)} (hl : l ≠ []) (h : (TL.joinL [10] l).length ≤ 13 * (a.length + 20)) : wt1 l ≤ 13 * (a.length + 20) + 1 := by
  have := (joinL_sum (c := 10) (l := l)).2 hl
  unfold wt1
  omega
end Pv

namespace Pv
open PySem PySem.Spec PyProof.Rows L2 SX
abbrev sCh : Stmt := topS 38
theorem scCh : FnScope ["_law_deck_here", "_law_text_here", "_law_at", "_law_course", "_law_sign", "_law_lines", "_law_k", "_law_words", "_law_odd_here"] ["_law_deck_here", "_law_text_here"] (defScope sCh) := ⟨rfl, rfl, rfl, by decide +kernel, rfl, by decide +kernel, by decide +kernel⟩
def oddW : List String := ["", "0", "00", "07", "1:", "0:", ":", "posts", "6", "1000000000001", "1000000000000:"]
def oddX : List String := ["-1", "1,0", "0,0,1"]
theorem odd_word {j : Nat} {x : V} (h : (oddW.map (fun s => V.str (Str.ofString s)) ++ oddX.map (fun s => V.str (Str.ofString s)))[j]? = some x) : ∃ o, x = .str (S o) ∧ o.length ≤ 14 := by
  rw [← List.map_append] at h
  obtain ⟨s, hs, rfl⟩ := List.mem_map.mp (List.mem_of_getElem? h)
  refine ⟨(Str.ofString s).cps.toList, congrArg V.str (S_of _).symm, ?_⟩
  have key : ∀ s ∈ oddW ++ oddX, (Str.ofString s).cps.toList.length ≤ 14 := by decide +kernel
  exact key s hs
section
variable {P : Program} {w : World} {K : PySem.W.Frag} {mg : Str → Option Value} {base : Heap}
def spCh (K : PySem.W.Frag) : Sp := fun vs H Q _ => ∃ (st c r : Addr) (t : Nat) (a : List Nat), vs = [.ref st, .str (S a)] ∧ DS H st c r t ∧ t + 20 ≤ 1000000 ∧ a.length ≤ 6000 ∧
  ∀ (H' : Hp) (b : List Nat) (t' : Nat), DS H' st c r t' → t' ≤ t + 10 → Ext st r H H' → Ch a b → Q (.str (S b)) H'
set_option maxHeartbeats 8000000 in
theorem ok_Ch {f fDr fOn : Addr} {fd fdDr fdOn : FuncData} (F : Fun K "_law_changed" "_law_changed" sCh f fd)
    (FDr : Fun K "_law_next" "_law_next" sDraw fDr fdDr) (bDr : Binds K fdDr ["_law_deck_here", "_law_many"] []) (gDr : mg "_law_next" = some (.ref fDr)) (GDr : FnOk P w K mg base CX0 1 fDr fdDr ["_law_deck_here", "_law_many"] spDraw)
    (FOn : Fun K "_law_one" "_law_one" sOne fOn fdOn) (bOn : Binds K fdOn ["_law_deck_here", "_law_items"] []) (gOn : mg "_law_one" = some (.ref fOn)) (GOn : FnOk P w K mg base CX0 2 fOn fdOn ["_law_deck_here", "_law_items"] (spOne K))
    (m_len : mg "len" = none) (m_int : mg "int" = none) :
    FnOk P w K mg base CX0 3 f fd ["_law_deck_here", "_law_text_here"] (spCh K) := by
  refine F.ok scCh (fun vs H Q E h => ?_) (fun cdv A outer s H vs Q E hr h => ?_)
  · obtain ⟨st, c, r, t, a, rfl, _⟩ := h; rfl
  · obtain ⟨st, c, r, t, a, rfl, hd, ht, hl, q⟩ := h
    refine ⟨_, pss_cons (ps_par (i := 2) (j := 3) rfl scCh.nd rfl rfl (by decide) rfl rfl (pa_cons (pe_call GDr (hr.mono (by omega)) (by rfl) gDr FDr.kp bDr .nil pass0 (pa_cons (pv 0) (pa_cons (pe_op op_add (pe_callB call_lenS (by rfl) m_len PySem.boot_len (pa_cons (pv 1) pa_nil)) (pe_int)) pa_nil))) (pa_cons (pe_call GDr (hr.mono (by omega)) (by rfl) gDr FDr.kp bDr .nil pass0 (pa_cons (pv 0) (pa_cons (pe_int) pa_nil))) pa_nil)) rfl)
      (pss_cons (ps_set (i := 4) scCh.nd rfl (.inl rfl) (pe_ix ix_str (pe_str) (pe_call GDr (hr.mono (by omega)) (by rfl) gDr FDr.kp bDr .nil pass0 (pa_cons (pv 0) (pa_cons (pe_int) pa_nil))) (fun _ _ => rfl)))
      (pss_cons (ps_if (pt_cmpR op_lt (pv 3) (pe_int) (nomark _))
        (pss_one (ps_ret (pe_op op_catS (pe_op op_catS (pe_slice C8.sl_txt (pv 1) po_none (po_some (pv 2))) (pe_ix ix_list (pe_lst (pa_cons (pv 4) (pa_cons (pe_str) (pa_cons (pv 4) pa_nil)))) (pv 3) (fun _ _ => rfl))) (pe_slice C8.sl_txt (pv 1) (po_some (pe_op op_add (pv 2) (pe_callTy call_int1 (by rfl) m_int (by decide +kernel) (pa_cons (pe_cmpR op_gt (pv 3) (pe_int) (nomark _)) pa_nil)))) po_none)))) pss_nil)
      (pss_cons (ps_set (i := 5) scCh.nd rfl (.inl rfl) (pe_m1 PySem.F.slot_str_split PySem.F.type_str_split mt_splitQ (pv 1) (pe_str)))
      (pss_cons (ps_set (i := 6) scCh.nd rfl (.inl rfl) (pe_call GDr (hr.mono (by omega)) (by rfl) gDr FDr.kp bDr .nil pass0 (pa_cons (pv 0) (pa_cons (pe_callB call_lenQ (by rfl) m_len PySem.boot_len (pa_cons (pv 5) pa_nil)) pa_nil))))
      (pss_cons (ps_if (pt_cmpR op_lt (pv 3) (pe_int) (nomark _))
        (pss_cons (ps_set (i := 7) scCh.nd rfl (.inl rfl) (pe_m1 PySem.F.slot_str_split PySem.F.type_str_split mt_splitQ (pe_ix ix_list (pv 5) (pv 6) (fun _ _ => rfl)) (pe_str)))
        (pss_cons (ps_set (i := 8) scCh.nd rfl (.inl rfl) (pe_lst (pa_cons (pe_str) (pa_cons (pe_str) (pa_cons (pe_str) (pa_cons (pe_str) (pa_cons (pe_str) (pa_cons (pe_str) (pa_cons (pe_str) (pa_cons (pe_str) (pa_cons (pe_str) (pa_cons (pe_str) (pa_cons (pe_str) pa_nil)))))))))))))
        (pss_cons (ps_set (i := 8) scCh.nd rfl (.inl rfl) (pe_op op_cat (pv 8) (pe_lst (pa_cons (pe_str) (pa_cons (pe_str) (pa_cons (pe_str) pa_nil))))))
        (pss_cons (ps_asg (pe_call GOn (hr.mono (by omega)) (by rfl) gOn FOn.kp bOn .nil pass0 (pa_cons (pv 0) (pa_cons (pv 8) pa_nil))) (pg_sub (pv 7) (pe_call GDr (hr.mono (by omega)) (by rfl) gDr FDr.kp bDr .nil pass0 (pa_cons (pv 0) (pa_cons (pe_callB call_lenQ (by rfl) m_len PySem.boot_len (pa_cons (pv 7) pa_nil)) pa_nil))) set_list))
        (pss_one (ps_asg (pe_m1 PySem.F.slot_str_join PySem.F.type_str_join mt_joinQ (pe_str) (pv 7)) (pg_sub (pv 5) (pv 6) set_list))))))) (pss_one (ps_if (pt_cmpR op_eq (pv 3) (pe_int) (nomark _))
          (pss_one (ps_set (i := 5) scCh.nd rfl (.inl rfl) (pe_op op_cat (pe_slice sl_list (pv 5) po_none (po_some (pe_int))) (pe_slice sl_list (pe_op op_rep (pe_slice sl_list (pv 5) (po_some (pe_int)) po_none) (pe_int)) po_none (po_some (pe_call GDr (hr.mono (by omega)) (by rfl) gDr FDr.kp bDr .nil pass0 (pa_cons (pv 0) (pa_cons (pe_int) pa_nil)))))))) (pss_one (ps_set (i := 5) scCh.nd rfl (.inl rfl) (pe_call GOn (hr.mono (by omega)) (by rfl) gOn FOn.kp bOn .nil pass0 (pa_cons (pv 0) (pa_cons (pe_lst (pa_cons (pe_op op_cat (pe_slice sl_list (pv 5) po_none (po_some (pv 6))) (pe_slice sl_list (pv 5) (po_some (pe_op op_add (pv 6) (pe_int))) po_none)) (pa_cons (pe_op op_cat (pe_slice sl_list (pv 5) po_none (po_some (pe_op op_add (pv 6) (pe_int)))) (pe_slice sl_list (pv 5) (po_some (pv 6)) po_none)) (pa_cons (pe_op op_cat (pv 5) (pe_lst (pa_cons (pe_str) pa_nil))) pa_nil)))) pa_nil))))))))
      (pss_one (ps_ret (pe_m1 PySem.F.slot_str_join PySem.F.type_str_join mt_joinQ (pe_str) (pv 5))))))))), ?_⟩
    have hl6 : (S a).length + 2 ≤ sizeLine := by rw [S_len]; exact small6 (by omega)
    have hl7 : (S a).length ≤ sizeLine := by omega
    refine ⟨.ref st, rfl, .str (S a), rfl, S a, rfl, hl7, _, _, rfl, rfl, st, c, r, t, _, rfl, hd, by omega, by rw [S_len]; omega, by rw [S_len]; omega, fun H1 ai h10 h11 D1 X1 => ?_⟩
    rw [S_len] at h11
    refine ⟨.ref st, rfl, st, c, r, t + 1, 8, rfl, D1, by omega, by decide, by decide, fun H2 co h20 h21 D2 X2 => ⟨_, _, rfl, ?_⟩⟩
    obtain ⟨at', rfl⟩ : ∃ n : Nat, ai = n := ⟨ai.toNat, by omega⟩
    refine ⟨.ref st, rfl, st, c, r, t + 2, 16, rfl, D2, by omega, by decide, by decide, fun H3 si h30 h31 D3 X3 => ?_⟩
    obtain ⟨sg, rfl⟩ : ∃ n : Nat, si = n := ⟨si.toNat, by omega⟩
    have hsl : (Str.ofString " \n0123456789:,-p").cps.toList.length = 16 := by rfl
    obtain ⟨ch, hch⟩ : ∃ ch, (Str.ofString " \n0123456789:,-p").cps.toList[sg]? = some ch := ⟨_, List.getElem?_eq_getElem (by rw [hsl]; omega)⟩
    refine ⟨_, sg, ch, rfl, rfl, by decide, atI_nat hch, ?_⟩
    have x3 := (X1.trans X2).trans X3
    refine ⟨.int co, rfl, _, _, rfl, rfl, _, rfl, ?_⟩
    refine ite2 (fun h3 => ?_) (fun h3 => ?_)
    · have h3 : co < 3 := of_decide_eq_true h3
      obtain ⟨z, hat, hz⟩ : ∃ z : List Nat, atI [V.str ⟨#[ch]⟩, V.str (Str.ofString ""), V.str ⟨#[ch]⟩] co = some (.str (S z)) ∧ z.length ≤ 1 := by
        obtain h | h | h : co = 0 ∨ co = 1 ∨ co = 2 := by omega
        · exact ⟨[ch], by rw [h]; rfl, by simp⟩
        · exact ⟨[], by rw [h]; rfl, by simp⟩
        · exact ⟨[ch], by rw [h]; rfl, by simp⟩
      refine ⟨.str (S a), rfl, .int at', rfl, at', rfl, S a, rfl, hl7, ?_⟩
      rw [slice_to (by omega), Int.toNat_natCast]
      refine ⟨.str ⟨#[ch]⟩, rfl, .str ⟨#[ch]⟩, rfl, (show (3 : Nat) ≤ sizeLine by decide), fun L nL => ?_⟩
      have sz : (2 : Nat) * 20000 ≤ sizeLine := by decide
      refine ⟨.int co, rfl, L, _, _, _, rfl, rfl, SqL.of upd_same, hat, _, _, rfl, rfl, by rw [S_len, S_len, List.length_take]; omega, ?_⟩
      rw [S_cat]
      refine ⟨.str (S a), rfl, .int at', rfl, .int co, rfl, _, _, rfl, rfl, .inr ⟨_, rfl, _, _, rfl, rfl, _, rfl, S a, rfl, hl7, ?_⟩⟩
      obtain ⟨m, hm⟩ : ∃ m : Nat, (at' : Int) + (if decide (0 < co) = true then 1 else 0) = (m : Int) := ⟨((at' : Int) + (if decide (0 < co) = true then 1 else 0)).toNat, by split <;> omega⟩
      rw [hm, slice_from (by omega), Int.toNat_natCast]
      refine ⟨_, _, rfl, rfl, by rw [S_len, S_len, List.length_append, List.length_take, List.length_drop]; omega, ?_⟩
      rw [S_cat]
      exact q _ _ (t + 3) (D3.new nL) (by omega) (x3.trans (Ext.of (sameNew nL))) (ch_sign hz at' m)
    have h3 : 3 ≤ co := by
      by_cases y : co < 3
      · exact absurd (decide_eq_true y) h3
      · omega
    refine ⟨.str (S a), rfl, ⟨_, rfl⟩, _, _, rfl, rfl, rfl, hl6, fun Ln nLn => ?_⟩
    rw [show Str.ofString "\n" = S [10] from rfl, split_wds (by decide)]
    have oLn := D3.off nLn
    have fLn := x3.nil D3 nLn
    have lw := wds_len 10 a
    have D4 := D3.new nLn (o := .lst (txs (wds 10 a)))
    have x4 := x3.trans (Ext.of (sameNew (o := .lst (txs (wds 10 a))) nLn))
    have eL4 : (upd H3 Ln (.lst (txs (wds 10 a)))) Ln = some (.lst (txs (wds 10 a))) := upd_same
    show _
    change (gName 5 (V.ref Ln) _ (upd H3 Ln (.lst (txs (wds 10 a)))) _)
    generalize upd H3 Ln (.lst (txs (wds 10 a))) = H4 at D4 x4 eL4 ⊢
    have ln0 : 0 < (wds 10 a).length := by obtain ⟨w, ws, e⟩ := wds_cons 10 a; rw [e]; simp
    refine ⟨.ref st, rfl, .ref Ln, rfl, Ln, _, rfl, .inl (SqL.of eL4), st, c, r, t + 3, _, rfl, D4, by omega, by rw [txs_len]; omega, by rw [txs_len]; omega, fun H5 ki h50 h51 D5 X5 => ?_⟩
    rw [txs_len] at h51
    obtain ⟨k, rfl⟩ : ∃ n : Nat, ki = n := ⟨ki.toNat, by omega⟩
    have x5 := x4.trans X5
    have eL5 := X5 _ _ eL4 oLn.1 oLn.2.2
    have hkl : k < (wds 10 a).length := by omega
    obtain ⟨w, hw⟩ : ∃ w, (wds 10 a)[k]? = some w := ⟨_, List.getElem?_eq_getElem hkl⟩
    have hwl := wds_each (List.mem_of_getElem? hw)
    dsimp only
    refine (id ?_ : tSeq (tIfS _ _ _) _ _ _ _)
    refine seq_with (fun σ Hx => ∃ (y7 y8 : Option V) (La : Addr) (l : List (List Nat)) (t' : Nat), σ = [some (.ref st), some (.str (S a)), some (.int at'), some (.int co), some (.str ⟨#[ch]⟩), some (.ref La), some (.int k), y7, y8] ∧ DS Hx st c r t' ∧ t' ≤ t + 10 ∧ Ext st r H Hx ∧ Hx La = some (.lst (txs l)) ∧ Ch a (TL.joinL [10] l)) (fun σ Hx h => ?_) (fun rest => ?_)
    · obtain ⟨y7, y8, La, l, t', rfl, Dx, htx, xx, eLx, hch'⟩ := h
      refine ⟨⟨_, rfl⟩, .ref La, rfl, S [10], La, l.map S, rfl, rfl, .inl (SqL.of eLx), join_ok ?_, ?_⟩
      · by_cases y : l = []
        · rw [y]; decide
        · have := lines_wt y hch'.len; omega
      · rw [join_S]
        exact q _ _ t' Dx htx xx hch'
    refine ⟨.int co, rfl, _, _, rfl, rfl, _, rfl, ?_⟩
    refine ite2 (fun h6 => ?_) (fun h6 => ?_)
    · -- a word
      refine ⟨.ref Ln, rfl, .int k, rfl, Ln, _, _, .str (S w), rfl, rfl, SqL.of eL5, atI_nat (txs_at hw), ⟨_, rfl⟩, _, _, rfl, rfl, rfl, by rw [S_len]; exact small6 (by omega), fun Wn nWn => ?_⟩
      rw [show Str.ofString " " = S [32] from rfl, split_wds (by decide)]
      change (gName 7 (V.ref Wn) _ (upd H5 Wn (.lst (txs (wds 32 w)))) _)
      have oWn := D5.off nWn
      have fWn := x5.nil D5 nWn
      have nLW : Ln ≠ Wn := ne_of_none eL5 nWn
      have D6 := D5.new nWn (o := .lst (txs (wds 32 w)))
      have x6 := x5.trans (Ext.of (sameNew (o := .lst (txs (wds 32 w))) nWn))
      have eL6 := upNew nWn (o := .lst (txs (wds 32 w))) eL5
      have eW6 : (upd H5 Wn (.lst (txs (wds 32 w)))) Wn = some (.lst (txs (wds 32 w))) := upd_same
      generalize upd H5 Wn (.lst (txs (wds 32 w))) = H6 at D6 x6 eL6 eW6 ⊢
      have wn0 : 0 < (wds 32 w).length := by obtain ⟨w1, ws, e⟩ := wds_cons 32 w; rw [e]; simp
      have wnl := wds_len 32 w
      refine ⟨(show (11 : Nat) ≤ sizeLine by decide), fun O1 nO1 => ?_⟩
      refine ⟨.ref O1, rfl, (show (3 : Nat) ≤ sizeLine by decide), fun O2 nO2 => ⟨O1, O2, _, _, rfl, rfl, upNew nO2 upd_same, upd_same, by decide, fun O3 nO3 => ?_⟩⟩
      have s7 := ((sameNew (o := .lst (oddW.map fun s => V.str (Str.ofString s))) nO1).trans (sameNew (o := .lst (oddX.map fun s => V.str (Str.ofString s))) nO2)).trans (sameNew (o := .lst (oddW.map (fun s => V.str (Str.ofString s)) ++ oddX.map (fun s => V.str (Str.ofString s)))) nO3)
      have D7 := D6.same s7
      have x7 := x6.trans (Ext.of s7)
      have eL7 := s7 _ _ eL6
      have eW7 := s7 _ _ eW6
      have oO3 := ((D6.new (o := .lst (oddW.map fun s => V.str (Str.ofString s))) nO1).new (o := .lst (oddX.map fun s => V.str (Str.ofString s))) nO2).off nO3
      refine ⟨.ref st, rfl, .ref O3, rfl, st, c, r, O3, t + 4, _, rfl, D7, by omega, upd_same, oO3.1, oO3.2.2, by rw [List.length_append]; exact Nat.lt_of_lt_of_le (show (0 : Nat) < 11 by decide) (Nat.le_add_right _ _), by rw [List.length_append]; exact (show (11 : Nat) + 3 ≤ 1000 by decide), fun H8 jo x hx D8 X8 => ?_⟩
      obtain ⟨o, rfl, ho⟩ := odd_word hx
      have x8 := x7.trans X8
      have eL8 := X8 _ _ eL7 oLn.1 oLn.2.2
      have eW8 := X8 _ _ eW7 oWn.1 oWn.2.2
      refine ⟨.ref Wn, rfl, .ref st, rfl, .ref Wn, rfl, Wn, _, rfl, .inl (SqL.of eW8), st, c, r, t + 5, _, rfl, D8, by omega, by rw [txs_len]; omega, by rw [txs_len]; omega, fun H9 ji h90 h91 D9 X9 => ?_⟩
      rw [txs_len] at h91
      obtain ⟨j, rfl⟩ : ∃ n : Nat, ji = n := ⟨ji.toNat, by omega⟩
      have x9 := x8.trans X9
      have eL9 := X9 _ _ eL8 oLn.1 oLn.2.2
      have eW9 := X9 _ _ eW8 oWn.1 oWn.2.2
      refine ⟨Wn, _, _, j, rfl, rfl, eW9, ixN_nat (by rw [txs_len]; omega), ?_⟩
      rw [txs_set]
      have eL10 : (upd H9 Wn (.lst (txs ((wds 32 w).set j o)))) Ln = some (.lst (txs (wds 10 a))) := by rw [upd_ne nLW]; exact eL9
      have hwt := wt1_set (wds 32 w) j o
      rw [wt1_wds] at hwt
      refine ⟨⟨_, rfl⟩, .ref Wn, rfl, S [32], Wn, ((wds 32 w).set j o).map S, rfl, rfl, .inl (SqL.of upd_same), join_ok (by omega), .ref Ln, rfl, .int k, rfl, Ln, _, _, k, rfl, rfl, eL10, ixN_nat (by rw [txs_len]; exact hkl), ?_⟩
      rw [join_S, txs_set]
      refine rest _ _ ⟨_, _, Ln, (wds 10 a).set k (TL.joinL [32] ((wds 32 w).set j o)), t + 6, rfl, (D9.put oWn.1 oWn.2.1 oWn.2.2).put oLn.1 oLn.2.1 oLn.2.2, by omega, ExtPut (ExtPut x9 fWn) fLn, upd_same, ch_word hw ho⟩
    refine ⟨.int co, rfl, rfl, _, rfl, ?_⟩
    by_cases h7 : co = 6
    · rw [show decide (V.int co = V.int 6) = true from decide_eq_true (by rw [h7])]
      refine iteT ?_
      have sz : (12 : Nat) * 7000 ≤ sizeLine := by decide
      refine ⟨.ref Ln, rfl, 1, rfl, Ln, _, rfl, SqL.of eL5, fun P1 nP1 => ?_⟩
      rw [show cutV (txs (wds 10 a)) none (some 1) = txs ((wds 10 a).take 1) from (cut_to _ 1).trans (txs_take _ _)]
      have s6 := sameNew (o := .lst (txs ((wds 10 a).take 1))) nP1
      have e61 : (upd H5 P1 (.lst (txs ((wds 10 a).take 1)))) P1 = some (.lst (txs ((wds 10 a).take 1))) := upd_same
      have D6 := D5.new nP1 (o := .lst (txs ((wds 10 a).take 1)))
      have o1 := D5.off nP1
      generalize upd H5 P1 (.lst (txs ((wds 10 a).take 1))) = H6 at s6 e61 D6 ⊢
      refine ⟨.ref Ln, rfl, 1, rfl, slLt (SqL.of (s6 _ _ eL5)) fun P2 nP2 => ?_⟩
      rw [cut_tail1, txs_drop]
      have s7 := sameNew (o := .lst (txs ((wds 10 a).drop 1))) nP2
      have e72 : (upd H6 P2 (.lst (txs ((wds 10 a).drop 1)))) P2 = some (.lst (txs ((wds 10 a).drop 1))) := upd_same
      have D7 := D6.new nP2 (o := .lst (txs ((wds 10 a).drop 1)))
      generalize upd H6 P2 (.lst (txs ((wds 10 a).drop 1))) = H7 at s7 e72 D7 ⊢
      refine ⟨P2, 12, _, rfl, rfl, e72, by decide, by decide, by rw [txs_len, List.length_drop, show (12 : Int).toNat = 12 from rfl]; omega, fun P3 nP3 => ?_⟩
      rw [show (12 : Int).toNat = 12 from rfl, txs_rep]
      have s8 := sameNew (o := .lst (txs (List.replicate 12 ((wds 10 a).drop 1)).flatten)) nP3
      have e83 : (upd H7 P3 (.lst (txs (List.replicate 12 ((wds 10 a).drop 1)).flatten))) P3 = some (.lst (txs (List.replicate 12 ((wds 10 a).drop 1)).flatten)) := upd_same
      have D8 := D7.new nP3 (o := .lst (txs (List.replicate 12 ((wds 10 a).drop 1)).flatten))
      have o3 := D7.off nP3
      generalize upd H7 P3 (.lst (txs (List.replicate 12 ((wds 10 a).drop 1)).flatten)) = H8 at s8 e83 D8 ⊢
      refine ⟨.ref st, rfl, st, c, r, t + 4, 13, rfl, D8, by omega, by decide, by decide, fun H9 ni h90 h91 D9 X9 => ⟨ni, rfl, P3, _, rfl, SqL.of (X9 _ _ e83 o3.1 o3.2.2), fun P4 nP4 => ?_⟩⟩
      obtain ⟨n, rfl⟩ : ∃ n : Nat, ni = n := ⟨ni.toNat, by omega⟩
      rw [cut_to, txs_take]
      have e91 := X9 _ _ (s8 _ _ (s7 _ _ e61)) o1.1 o1.2.2
      have s10 := sameNew (o := .lst (txs ((List.replicate 12 ((wds 10 a).drop 1)).flatten.take n))) nP4
      have szz : (txs ((wds 10 a).take 1)).length + (txs ((List.replicate 12 ((wds 10 a).drop 1)).flatten.take n)).length ≤ sizeLine := by
        rw [txs_len, txs_len, List.length_take, List.length_take]; omega
      refine ⟨P1, P4, _, _, rfl, rfl, s10 _ _ e91, upd_same, szz, fun P5 nP5 => ?_⟩
      rw [txs_app]
      refine rest _ _ ⟨_, _, P5, _, t + 5, rfl, (D9.new nP4).new nP5, by omega, ((((x5.trans (Ext.of s6)).trans (Ext.of s7)).trans ((Ext.of s8).trans X9)).trans (Ext.of s10)).trans (Ext.of (sameNew nP5)), upd_same, ch_rep (by omega)⟩
    · rw [show decide (V.int co = V.int 6) = false from decide_eq_false (fun e => h7 (V.int.inj e))]
      refine iteF ?_
      have sz : (2 : Nat) * 7000 ≤ sizeLine := by decide
      have hk1 : (k : Int) + 1 = ((k + 1 : Nat) : Int) := by omega
      refine ⟨.ref st, rfl, .ref Ln, rfl, .int k, rfl, k, rfl, Ln, _, rfl, SqL.of eL5, fun A1 nA1 => ?_⟩
      rw [cut_to, txs_take]
      have sA1 := sameNew (o := .lst (txs ((wds 10 a).take k))) nA1
      have eA1 : (upd H5 A1 (.lst (txs ((wds 10 a).take k)))) A1 = some (.lst (txs ((wds 10 a).take k))) := upd_same
      generalize upd H5 A1 (.lst (txs ((wds 10 a).take k))) = G1 at sA1 eA1 ⊢
      refine ⟨.ref Ln, rfl, .int k, rfl, _, _, rfl, rfl, _, rfl, slLt (SqL.of (sA1 _ _ eL5)) fun A2 nA2 => ?_⟩
      rw [hk1, cut_tail, txs_drop]
      have sA2 := sameNew (o := .lst (txs ((wds 10 a).drop (k + 1)))) nA2
      have eA2 : (upd G1 A2 (.lst (txs ((wds 10 a).drop (k + 1))))) A2 = some (.lst (txs ((wds 10 a).drop (k + 1)))) := upd_same
      generalize upd G1 A2 (.lst (txs ((wds 10 a).drop (k + 1)))) = G2 at sA2 eA2 ⊢
      refine ⟨A1, A2, _, _, rfl, rfl, sA2 _ _ eA1, eA2, by rw [txs_len, txs_len, List.length_take, List.length_drop]; omega, fun A3 nA3 => ?_⟩
      rw [txs_app]
      have sA3 := sameNew (o := .lst (txs ((wds 10 a).take k ++ (wds 10 a).drop (k + 1)))) nA3
      have eA3 : (upd G2 A3 (.lst (txs ((wds 10 a).take k ++ (wds 10 a).drop (k + 1))))) A3 = some (.lst (txs ((wds 10 a).take k ++ (wds 10 a).drop (k + 1)))) := upd_same
      have s53 := (sA1.trans sA2).trans sA3
      have D3' := D5.same s53
      have oA3 := (D5.same (sA1.trans sA2)).off nA3
      generalize upd G2 A3 (.lst (txs ((wds 10 a).take k ++ (wds 10 a).drop (k + 1)))) = G3 at sA3 eA3 s53 D3' ⊢
      -- the second
      refine ⟨.ref Ln, rfl, .int k, rfl, _, _, rfl, rfl, _, rfl, Ln, _, rfl, SqL.of (s53 _ _ eL5), fun B1 nB1 => ?_⟩
      rw [hk1, cut_to, txs_take]
      have sB1 := sameNew (o := .lst (txs ((wds 10 a).take (k + 1)))) nB1
      have eB1 : (upd G3 B1 (.lst (txs ((wds 10 a).take (k + 1))))) B1 = some (.lst (txs ((wds 10 a).take (k + 1)))) := upd_same
      generalize upd G3 B1 (.lst (txs ((wds 10 a).take (k + 1)))) = G4 at sB1 eB1 ⊢
      refine ⟨.ref Ln, rfl, .int k, rfl, k, rfl, slLt (SqL.of (sB1 _ _ (s53 _ _ eL5))) fun B2 nB2 => ?_⟩
      rw [cut_tail, txs_drop]
      have sB2 := sameNew (o := .lst (txs ((wds 10 a).drop k))) nB2
      have eB2 : (upd G4 B2 (.lst (txs ((wds 10 a).drop k)))) B2 = some (.lst (txs ((wds 10 a).drop k))) := upd_same
      generalize upd G4 B2 (.lst (txs ((wds 10 a).drop k))) = G5 at sB2 eB2 ⊢
      refine ⟨B1, B2, _, _, rfl, rfl, sB2 _ _ eB1, eB2, by rw [txs_len, txs_len, List.length_take, List.length_drop]; omega, fun B3 nB3 => ?_⟩
      rw [txs_app]
      have sB3 := sameNew (o := .lst (txs ((wds 10 a).take (k + 1) ++ (wds 10 a).drop k))) nB3
      have eB3 : (upd G5 B3 (.lst (txs ((wds 10 a).take (k + 1) ++ (wds 10 a).drop k)))) B3 = some (.lst (txs ((wds 10 a).take (k + 1) ++ (wds 10 a).drop k))) := upd_same
      have s56 := s53.trans ((sB1.trans sB2).trans sB3)
      have oB3 := (D5.same (s53.trans (sB1.trans sB2))).off nB3
      generalize upd G5 B3 (.lst (txs ((wds 10 a).take (k + 1) ++ (wds 10 a).drop k))) = G6 at sB3 eB3 s56 ⊢
      -- the third
      refine ⟨.ref Ln, rfl, (show (1 : Nat) ≤ sizeLine by decide), fun C1 nC1 => ?_⟩
      have sC1 := sameNew (o := .lst (txs [[]])) nC1
      have szC : (txs (wds 10 a)).length + (txs [[]]).length ≤ sizeLine := by rw [txs_len, txs_len]; simp; omega
      refine ⟨Ln, C1, _, txs [[]], rfl, rfl, sC1 _ _ (s56 _ _ eL5), upd_same, szC, fun C3 nC3 => ?_⟩
      rw [txs_app]
      have sC3 := sC1.trans (sameNew (o := .lst (txs (wds 10 a ++ [[]]))) nC3)
      have eC3 : (upd (upd G6 C1 (.lst (txs [[]]))) C3 (.lst (txs (wds 10 a ++ [[]])))) C3 = some (.lst (txs (wds 10 a ++ [[]]))) := upd_same
      have oC3 := (D5.same (s56.trans sC1)).off nC3
      have s57 := s56.trans sC3
      have eA7 := sC3 _ _ (sB3 _ _ (sB2 _ _ (sB1 _ _ eA3)))
      have eB7 := sC3 _ _ eB3
      refine ⟨(show (3 : Nat) ≤ sizeLine by decide), fun Z nZ => ?_⟩
      have s58 := s57.trans (sameNew (o := .lst [.ref A3, .ref B3, .ref C3]) nZ)
      have D8 := D5.same s58
      have eZ : (upd (upd (upd G6 C1 (.lst (txs [[]]))) C3 (.lst (txs (wds 10 a ++ [[]])))) Z (.lst [.ref A3, .ref B3, .ref C3])) Z = some (.lst [.ref A3, .ref B3, .ref C3]) := upd_same
      have oZ := (D5.same s57).off nZ
      have eA8 := (sameNew (o := .lst [.ref A3, .ref B3, .ref C3]) nZ) _ _ eA7
      have eB8 := (sameNew (o := .lst [.ref A3, .ref B3, .ref C3]) nZ) _ _ eB7
      have eC8 := (sameNew (o := .lst [.ref A3, .ref B3, .ref C3]) nZ) _ _ eC3
      refine ⟨st, c, r, Z, t + 4, _, rfl, D8, by omega, eZ, oZ.1, oZ.2.2, (show (0 : Nat) < 3 by decide), (show (3 : Nat) ≤ 1000 by decide), fun H9 jo x hx D9 X9 => ?_⟩
      obtain ⟨La, l, rfl, eLa, hl3⟩ : ∃ (La : Addr) (l : List (List Nat)), x = .ref La ∧ H9 La = some (.lst (txs l)) ∧ (l = (wds 10 a).take k ++ (wds 10 a).drop (k + 1) ∨ l = (wds 10 a).take (k + 1) ++ (wds 10 a).drop k ∨ l = wds 10 a ++ [[]]) := by
        match jo, hx with
        | 0, hx => simp at hx; exact ⟨A3, _, hx.symm, X9 _ _ eA8 oA3.1 oA3.2.2, .inl rfl⟩
        | 1, hx => simp at hx; exact ⟨B3, _, hx.symm, X9 _ _ eB8 oB3.1 oB3.2.2, .inr (.inl rfl)⟩
        | 2, hx => simp at hx; exact ⟨C3, _, hx.symm, X9 _ _ eC8 oC3.1 oC3.2.2, .inr (.inr rfl)⟩
        | jo + 3, hx => simp at hx
      refine rest _ _ ⟨_, _, La, l, t + 5, rfl, D9, by omega, (x5.trans (Ext.of s58)).trans X9, eLa, ch_three hl3⟩
end
end Pv

namespace Pv
open PySem PySem.Spec PyProof.Rows L2 SX
/-! how long numbers' texts are -/
theorem num13 {i : Int} (h : i ≤ 10 ^ 12) : (numT i).length ≤ 13 := TL.numL_len (by decide) (by
  have : i.toNat ≤ 10 ^ 12 := by omega
  exact Nat.lt_of_le_of_lt this (by decide))
theorem num1 {i : Int} (h : i < 10) : (numT i).length ≤ 1 := by
  unfold numT
  rw [TL.numL_lt (by omega)]; simp
theorem wt1_nums {ns : List Int} {M : Nat} (h : ∀ n ∈ ns, (numT n).length ≤ M) : wt1 (ns.map numT) ≤ ns.length * (M + 1) := by
  have := wt1_mem (l := ns.map numT) (M := M) fun w hw => by
    obtain ⟨n, hn, rfl⟩ := List.mem_map.mp hw
    exact h n hn
  rwa [List.length_map] at this
theorem wt1_cons (w : List Nat) (l : List (List Nat)) : wt1 (w :: l) = w.length + 1 + wt1 l := by
  unfold wt1
  rw [List.map_cons, List.sum_cons, List.length_cons]; omega
end Pv

namespace Pv
open PySem PySem.Spec PyProof.Rows L2 SX
def insT (cs : List Int) (gs : List Gp) : List Nat := TL.joinL [10] (lineP cs :: gs.map lineG)
theorem lineP_90 {cs : List Int} {gs : List Gp} (ok : InsOk cs gs) : (lineP cs).length ≤ 90 := by
  have h := join_wt 32 ([112, 111, 115, 116, 115] :: cs.map numT)
  rw [wt1_cons] at h
  have h2 := wt1_nums (ns := cs) (M := 13) fun n hn => num13 (ok.cb n hn).2
  have h3 := Nat.mul_le_mul_right 14 ok.c6
  unfold lineP
  simp only [List.length_cons, List.length_nil] at h
  omega
theorem lineG_27 {cs : List Int} {gs : List Gp} (ok : InsOk cs gs) {g : Gp} (hg : g ∈ gs) : (lineG g).length ≤ 27 := by
  obtain ⟨h1, h2, h3, h4⟩ := ok.gp g hg
  have c6 := ok.c6
  have h := join_wt 32 ((numT g.2 ++ [58]) :: g.1.map numT)
  rw [wt1_cons, List.length_append] at h
  have h5 := wt1_nums (ns := g.1) (M := 1) fun n hn => num1 (by have := h2 n hn; omega)
  have h6 := Nat.mul_le_mul_right 2 h1
  have h7 := num13 h4
  unfold lineG
  simp only [List.length_cons, List.length_nil] at h
  omega
theorem insT_400 {cs : List Int} {gs : List Gp} (ok : InsOk cs gs) : (insT cs gs).length ≤ 400 := by
  have h := join_wt 10 (lineP cs :: gs.map lineG)
  rw [wt1_cons] at h
  have h1 := lineP_90 ok
  have h2 := wt1_mem (l := gs.map lineG) (M := 27) fun w hw => by
    obtain ⟨g, hg, rfl⟩ := List.mem_map.mp hw
    exact lineG_27 ok hg
  rw [List.length_map] at h2
  have h3 := Nat.mul_le_mul_right 28 ok.g10
  unfold insT
  omega
theorem insT_nl {cs : List Int} {gs : List Gp} (ok : InsOk cs gs) : RB nl 90 (insT cs gs) := RB.join rfl fun w hw => by
  rcases List.mem_cons.mp hw with rfl | hw
  · exact RB.len (lineP_90 ok)
  · obtain ⟨g, hg, rfl⟩ := List.mem_map.mp hw
    exact RB.len (by have := lineG_27 ok hg; omega)
def Good (d : PyData) : Prop := ∀ a, d = .str (S a) → a.length ≤ 80000 ∧ RB nl 640 a
theorem good_str {a : List Nat} {B : Nat} (h : a.length ≤ 80000) (k : RB nl B a) (hB : B ≤ 640) : Good (.str (S a)) := fun b e => by
  have : b = a := (S_inj (PyData.str.inj e)).symm
  rw [this]
  exact ⟨h, k.mono hB⟩
/-! what is due is plain -/
theorem plainAll_of {ds : List PyData} (h : ∀ d ∈ ds, plain d = true) : plainAll ds = true := by
  induction ds with
  | nil => rfl
  | cons d ds ih => simp [plainAll, h d (by simp), ih (fun e he => h e (by simp [he]))]
theorem depthAll_of {k : Nat} {ds : List PyData} (h : ∀ d ∈ ds, d.depth ≤ k) : PyData.depthAll ds ≤ k := by
  induction ds with
  | nil => simp [PyData.depthAll]
  | cons d ds ih =>
    have h1 := h d (by simp)
    have h2 := ih (fun e he => h e (by simp [he]))
    simp only [PyData.depthAll]; omega
theorem plain_ns {ns : List Int} (h : ns.length ≤ 1000) : plain (dI ns) = true := by
  simp only [dI, plain, List.length_map, Bool.and_eq_true, decide_eq_true_eq]
  exact ⟨h, plainAll_of (by intro d hd; obtain ⟨n, _, rfl⟩ := List.mem_map.mp hd; rfl)⟩
theorem depth_ns (ns : List Int) : (dI ns).depth ≤ 1 := by
  have : PyData.depthAll (ns.map PyData.int) ≤ 0 := depthAll_of (by intro d hd; obtain ⟨n, _, rfl⟩ := List.mem_map.mp hd; simp [PyData.depth])
  simp only [dI, PyData.depth]; omega
theorem plain_pg {n : Nat} (hn : n ≤ 50) {l : List Nat} (h : l.length ≤ 640) : plain (pgD n l) = true ∧ (pgD n l).depth ≤ 2 := by
  rw [pg_lg hn]
  unfold lgD
  cases ew : wds 32 l with
  | nil => exact ⟨rfl, by simp [PyData.depth]⟩
  | cons w0 ws =>
    dsimp only
    have wl := wds_len 32 l
    rw [ew, List.length_cons] at wl
    split
    · have a1 := plain_ns (ns := ws.map lnO) (by rw [List.length_map]; omega)
      have a2 := depth_ns (ws.map lnO)
      exact ⟨by simp [dGrp, plain, plainAll, a1], by simp only [dGrp, PyData.depth, PyData.depthAll]; omega⟩
    · exact ⟨rfl, by simp [PyData.depth]⟩
theorem plain_pp {l : List Nat} : plain (ppD l) = true ∧ (ppD l).depth ≤ 1 := by
  rw [pp_lp]
  unfold lpD
  cases ew : wds 32 l with
  | nil => exact ⟨rfl, by simp [PyData.depth]⟩
  | cons w0 ws =>
    dsimp only
    split
    · rename_i h
      exact ⟨plain_ns (by rw [List.length_map]; omega), depth_ns _⟩
    · exact ⟨rfl, by simp [PyData.depth]⟩
theorem piG_eq {n : Nat} : ∀ {ls : List (List Nat)} {k : Nat} {gs : List PyData}, piG n k ls = .inr gs → gs = ls.map (pgD n) ∧ (ls = [] ∨ k + ls.length ≤ 11)
  | [], _, _, h => by cases h; exact ⟨rfl, .inl rfl⟩
  | l :: ls, k, gs, h => by
    unfold piG at h
    split at h
    · cases h
    · rename_i hc
      cases e : piG n (k + 1) ls with
      | inl j => rw [e] at h; cases h
      | inr gs' =>
        rw [e] at h
        cases h
        obtain ⟨h1, h2⟩ := piG_eq e
        have h3 : ¬ 10 < k := fun z => hc (.inr z)
        refine ⟨by rw [h1]; rfl, .inr ?_⟩
        rw [List.length_cons]
        rcases h2 with rfl | h2
        · rw [List.length_nil]; omega
        · omega
theorem due_plain {d : PyData} (hg : Good d) : plain (dueD d) = true ∧ (dueD d).depth ≤ 5 := by
  have hbad : ∀ o, plain (.list [.str "bad", oD o]) = true ∧ (PyData.list [.str "bad", oD o]).depth ≤ 5 := fun o => by
    cases o <;> exact ⟨by simp [plain, plainAll, oD], by simp [PyData.depth, PyData.depthAll, oD]⟩
  unfold dueD
  cases e : piR d with
  | inl o => exact hbad o
  | inr x =>
    dsimp only
    have hx : plain x = true ∧ x.depth ≤ 4 := by
      unfold piR at e
      split at e
      · rename_i z
        obtain ⟨_, hrb⟩ := hg z.cps.toList (by rw [S_of])
        unfold piT at e
        cases el : wds 10 z.cps.toList with
        | nil => rw [el] at e; cases e
        | cons l0 ls =>
          rw [el] at e
          dsimp only at e
          split at e
          · cases e
          · cases eg : piG (lenD (ppD l0)) 1 ls with
            | inl k => rw [eg] at e; cases e
            | inr gs =>
              rw [eg] at e
              dsimp only at e
              split at e
              · cases e
              · cases e
                obtain ⟨h1, h2⟩ := piG_eq eg
                have hn : lenD (ppD l0) ≤ 50 := by
                  rcases ppD_cases l0 with e | ⟨ds, e, h6, _⟩
                  · rw [e]; simp [lenD]
                  · rw [e]; simp only [lenD]; omega
                have hp := plain_pp (l := l0)
                have hall : ∀ d ∈ gs, plain d = true ∧ d.depth ≤ 2 := fun d hd => by
                  rw [h1] at hd
                  obtain ⟨l, hl, rfl⟩ := List.mem_map.mp hd
                  exact plain_pg hn (hrb.line (by rw [el]; exact List.mem_cons_of_mem _ hl))
                have hlen : gs.length ≤ 1000 := by
                  rw [h1, List.length_map]
                  rcases h2 with rfl | h2
                  · simp
                  · omega
                have a1 := plainAll_of fun d hd => (hall d hd).1
                have a2 := depthAll_of fun d hd => (hall d hd).2
                exact ⟨by simp [plain, plainAll, hp.1, a1, hlen], by simp only [PyData.depth, PyData.depthAll]; omega⟩
      · cases e
    exact ⟨by simp [plain, plainAll, hx.1], by simp only [PyData.depth, PyData.depthAll]; omega⟩
end Pv

namespace Pv
open PySem PySem.Spec PyProof.Rows L2 SX
abbrev sLaw : Stmt := topS 42
theorem scLaw : FnScope ["_law_script", "_law_deck_here", "_law_turn", "_law_text_here", "_law_values", "_law_k", "_law_once", "_law_value"] ["_law_script"] (defScope sLaw) := ⟨rfl, rfl, rfl, by decide +kernel, rfl, by decide +kernel, by decide +kernel⟩
theorem lasts_put {st r D : Addr} {H H1 : Hp} {o : HO} (l : Lasts st r H H1) (nD : H D = none) : Lasts st r H (upd H1 D o) := by
  refine ⟨fun b xs => ⟨fun h => ?_, fun u h => ?_⟩, fun b xs h h1 h2 => ?_, fun b kvs h => ?_⟩
  · rw [upd_ne (ne_of_none h nD)]; exact (l.tk b xs).1 h
  · rw [upd_ne (ne_of_none h nD)]; exact (l.tk b xs).2 u h
  · rw [upd_ne (ne_of_none h nD)]; exact l.ls b xs h h1 h2
  · rw [upd_ne (ne_of_none h nD)]; exact l.dk b kvs h
section
variable {P : Program} {w : World} {K : PySem.W.Frag} {mg : Str → Option Value} {base : Heap}
def spLaw (K : PySem.W.Frag) : Sp := fun vs H Q _ => ∃ (a : Addr) (ns : List Int), vs = [.ref a] ∧ SqL K H a (ns.map V.int) ∧ ns.length ≤ 63 ∧ ∀ H', Q (.bl true) H'
set_option maxHeartbeats 8000000 in
theorem ok_Law {f fSt fDr fIn fLt fOd fCh fTo fDu fSm : Addr} {fd fdSt fdDr fdIn fdLt fdOd fdCh fdTo fdDu fdSm : FuncData} (F : Fun K "law" "law" sLaw f fd)
    (FSt : Fun K "_law_deck" "_law_deck" sStart fSt fdSt) (bSt : Binds K fdSt ["_law_script"] []) (gSt : mg "_law_deck" = some (.ref fSt)) (GSt : FnOk P w K mg base CX0 1 fSt fdSt ["_law_script"] (spStart K))
    (FDr : Fun K "_law_next" "_law_next" sDraw fDr fdDr) (bDr : Binds K fdDr ["_law_deck_here", "_law_many"] []) (gDr : mg "_law_next" = some (.ref fDr)) (GDr : FnOk P w K mg base CX0 1 fDr fdDr ["_law_deck_here", "_law_many"] spDraw)
    (FIn : Fun K "_law_instance" "_law_instance" sInst fIn fdIn) (bIn : Binds K fdIn ["_law_deck_here", "_law_posts", "_law_groups", "_law_far"] []) (gIn : mg "_law_instance" = some (.ref fIn)) (GIn : FnOk P w K mg base CX0 4 fIn fdIn ["_law_deck_here", "_law_posts", "_law_groups", "_law_far"] (spInst K))
    (FLt : Fun K "_law_text" "_law_text" sLt fLt fdLt) (bLt : Binds K fdLt ["_law_instance_here"] []) (gLt : mg "_law_text" = some (.ref fLt)) (GLt : FnOk P w K mg base CX0 1 fLt fdLt ["_law_instance_here"] (spLt K))
    (FOd : Fun K "_law_odd" "_law_odd" sOdd fOd fdOd) (bOd : Binds K fdOd ["_law_deck_here"] []) (gOd : mg "_law_odd" = some (.ref fOd)) (GOd : FnOk P w K mg base CX0 2 fOd fdOd ["_law_deck_here"] (spOdd K))
    (FCh : Fun K "_law_changed" "_law_changed" sCh fCh fdCh) (bCh : Binds K fdCh ["_law_deck_here", "_law_text_here"] []) (gCh : mg "_law_changed" = some (.ref fCh)) (GCh : FnOk P w K mg base CX0 3 fCh fdCh ["_law_deck_here", "_law_text_here"] (spCh K))
    (FTo : Fun K "_law_told" "_law_told" sTo fTo fdTo) (bTo : Binds K fdTo ["_law_value"] []) (gTo : mg "_law_told" = some (.ref fTo)) (GTo : FnOk P w K mg base CX0 8 fTo fdTo ["_law_value"] (spTo K))
    (FDu : Fun K "_law_due" "_law_due" sDu fDu fdDu) (bDu : Binds K fdDu ["_law_value"] []) (gDu : mg "_law_due" = some (.ref fDu)) (GDu : FnOk P w K mg base CX0 3 fDu fdDu ["_law_value"] (spDu K))
    (FSm : Fun K "_law_same" "_law_same" sSame fSm fdSm) (bSm : Binds K fdSm ["_law_found", "_law_due_here"] []) (gSm : mg "_law_same" = some (.ref fSm)) (GSm : FnOk P w K mg base CX0 6 fSm fdSm ["_law_found", "_law_due_here"] (spS K 6))
    (m_range : mg "range" = none) :
    FnG P w K mg base 9 f fd ["_law_script"] (spLaw K) := by
  refine okG F scLaw (fun vs H Q E h => ?_) (fun cdv A outer s H vs Q E hgd hr h => ?_)
  · obtain ⟨a, ns, rfl, _⟩ := h; rfl
  · obtain ⟨a, ns, rfl, hS, hn, q⟩ := h
    refine ⟨_, pss_cons (ps_set (i := 1) scLaw.nd rfl (.inl rfl) (pe_call GSt (hr.mono (by omega)) (by rfl) gSt FSt.kp bSt .nil pass0 (pa_cons (pv 0) pa_nil)))
      (pss_cons (ps_for PassesOwn.never rfl (pi_range1 (by rfl) m_range (pa_cons (pe_int) pa_nil)) (pg_name (i := 2) scLaw.nd rfl (.inl rfl))
        (pss_cons (ps_set (i := 3) scLaw.nd rfl (.inl rfl) (pe_call GLt (hr.mono (by omega)) (by rfl) gLt FLt.kp bLt .nil pass0 (pa_cons (pe_call GIn (hr.mono (by omega)) (by rfl) gIn FIn.kp bIn .nil pass0 (pa_cons (pv 1) (pa_cons (pe_int) (pa_cons (pe_ix ix_list (pe_lst (pa_cons (pe_int) (pa_cons (pe_int) pa_nil))) (pe_call GDr (hr.mono (by omega)) (by rfl) gDr FDr.kp bDr .nil pass0 (pa_cons (pv 1) (pa_cons (pe_int) pa_nil))) (fun _ _ => rfl)) (pa_cons (pe_call GDr (hr.mono (by omega)) (by rfl) gDr FDr.kp bDr .nil pass0 (pa_cons (pv 1) (pa_cons (pe_int) pa_nil))) pa_nil))))) pa_nil)))
        (pss_cons (ps_set (i := 4) scLaw.nd rfl (.inl rfl) (pe_lst (pa_cons (pv 3) (pa_cons (pe_op op_catS (pv 3) (pe_str)) (pa_cons (pe_ix ix_list (pe_m1 PySem.F.slot_str_split PySem.F.type_str_split mt_splitQ (pv 3) (pe_str)) (pe_int) (fun _ _ => rfl)) (pa_cons (pe_call GOd (hr.mono (by omega)) (by rfl) gOd FOd.kp bOd .nil pass0 (pa_cons (pv 1) pa_nil)) (pa_cons (pe_str) pa_nil)))))))
        (pss_cons (ps_for PassesOwn.never rfl (pi_range1 (by rfl) m_range (pa_cons (pe_int) pa_nil)) (pg_name (i := 5) scLaw.nd rfl (.inl rfl))
          (pss_cons (ps_set (i := 6) scLaw.nd rfl (.inl rfl) (pe_call GCh (hr.mono (by omega)) (by rfl) gCh FCh.kp bCh .nil pass0 (pa_cons (pv 1) (pa_cons (pv 3) pa_nil))))
          (pss_one (ps_expr (pe_bm PySem.F.plainAttrs_list PySem.F.slot_list_append PySem.F.type_list_append mt_append (pv 4) (pa_cons (pe_ix ix_list (pe_lst (pa_cons (pv 6) (pa_cons (pe_call GCh (hr.mono (by omega)) (by rfl) gCh FCh.kp bCh .nil pass0 (pa_cons (pv 1) (pa_cons (pv 6) pa_nil))) pa_nil))) (pe_call GDr (hr.mono (by omega)) (by rfl) gDr FDr.kp bDr .nil pass0 (pa_cons (pv 1) (pa_cons (pe_int) pa_nil))) (fun _ _ => rfl)) pa_nil))))))
        (pss_one (ps_for PassesOwn.never rfl (pi_list (pv 4)) (pg_name (i := 7) scLaw.nd rfl (.inl rfl))
          (pss_one (ps_if (pt_not (pt_val (pe_call GSm (hr.mono (by omega)) (by rfl) gSm FSm.kp bSm .nil pass0 (pa_cons (pe_call GTo (hr.mono (by omega)) (by rfl) gTo FTo.kp bTo .nil pass0 (pa_cons (pv 7) pa_nil)) (pa_cons (pe_call GDu (hr.mono (by omega)) (by rfl) gDu FDu.kp bDu .nil pass0 (pa_cons (pv 7) pa_nil)) pa_nil)))))
            (pss_one (ps_ret (pe_bl))) pss_nil))))))))
      (pss_one (ps_ret (pe_bl)))), ?_⟩
    have sz : (2 : Nat) * 50000 ≤ sizeLine := by decide
    have two : (2 : Nat) ≤ sizeLine := by decide
    refine ⟨.ref a, rfl, a, ns, rfl, hS, hn, fun H1 st c r s1 D1 => ?_⟩
    refine ⟨5, rfl, by decide, by decide, for_it (walk_range (lo := 0) (n := (5 : Int).toNat))
      (fun i σ H2 => ∃ (y2 y3 y4 y5 y6 y7 : Option V) (t2 : Nat), σ = [some (.ref a), some (.ref st), y2, y3, y4, y5, y6, y7] ∧ DS H2 st c r t2 ∧ t2 ≤ 2000 * i)
      ⟨none, none, none, none, none, none, 0, rfl, D1, by omega⟩ (fun _ _ _ _ _ => trivial) ?_ (fun σ H2 _ => q _)⟩
    rintro i v σ H2 H2' hlt ⟨y2, y3, y4, y5, y6, y7, t2, rfl, D2, ht2⟩ ⟨rfl, rfl⟩
    have hi6 : i < 5 := hlt
    refine ⟨.ref st, rfl, two, fun L0 nL0 => ?_⟩
    have eL0 : (upd H2' L0 (.lst [.int 3, .int 10])) L0 = some (.lst [.int 3, .int 10]) := upd_same
    have D3 := D2.new nL0 (o := .lst [.int 3, .int 10])
    have oL0 := D2.off nL0
    generalize upd H2' L0 (.lst [.int 3, .int 10]) = H3 at eL0 D3 ⊢
    refine ⟨.ref st, rfl, st, c, r, t2, 2, rfl, D3, by omega, by decide, by decide, fun H4 g0 h40 h41 D4 X4 => ?_⟩
    obtain ⟨gm, hgm, gm1, gm2⟩ : ∃ gm : Int, atI [V.int 3, V.int 10] g0 = some (.int gm) ∧ 1 ≤ gm ∧ gm ≤ 10 := by
      obtain h | h : g0 = 0 ∨ g0 = 1 := by omega
      · exact ⟨3, by rw [h]; rfl, by decide, by decide⟩
      · exact ⟨10, by rw [h]; rfl, by decide, by decide⟩
    refine ⟨L0, _, _, _, rfl, rfl, SqL.of (X4 _ _ eL0 oL0.1 oL0.2.2), hgm, .ref st, rfl, st, c, r, t2 + 1, 2, rfl, D4, by omega, by decide, by decide, fun H5 far h50 h51 D5 X5 => ?_⟩
    refine ⟨st, c, r, _, gm, far, rfl, D5, by omega, gm1, gm2, fun H6 I t6 cs gs D6 ht6 X6 hI ok hnd => ?_⟩
    refine ⟨I, cs, gs, rfl, hI, ok, fun H7 s7 => ?_⟩
    have D7 := D6.same s7
    obtain ⟨T, hT⟩ : ∃ T, insT cs gs = T := ⟨_, rfl⟩
    have lT : T.length ≤ 400 := hT ▸ insT_400 ok
    have bT : RB nl 90 T := hT ▸ insT_nl ok
    rw [show TL.joinL [10] (lineP cs :: gs.map lineG) = T from hT]
    -- the first values
    have hT6 : (S T).length + 2 ≤ sizeLine := by rw [S_len]; omega
    refine ⟨.str (S T), rfl, .str (S T), rfl, _, _, rfl, rfl, ?_, ?_⟩
    · rw [show Str.ofString "\n" = S [10] from rfl, S_len, S_len]; simp only [List.length_cons, List.length_nil]; omega
    rw [show Str.ofString "\n" = S [10] from rfl, S_cat]
    refine ⟨.str (S T), rfl, ⟨_, rfl⟩, _, _, rfl, rfl, rfl, hT6, fun p np => ?_⟩
    rw [split_wds (by decide)]
    obtain ⟨l0, ls, el⟩ := wds_cons 10 T
    have ml0 : l0 ∈ wds 10 T := by rw [el]; exact List.mem_cons_self ..
    have ll0 := wds_each ml0
    have bl0 := bT.word ml0
    rw [el]
    have D8 := D7.new np (o := .lst (((l0 :: ls).map S).map V.str))
    have ep : (upd H7 p (.lst (((l0 :: ls).map S).map V.str))) p = some (.lst (((l0 :: ls).map S).map V.str)) := upd_same
    generalize upd H7 p (.lst (((l0 :: ls).map S).map V.str)) = H8 at D8 ep ⊢
    refine ⟨p, _, 0, .str (S l0), rfl, rfl, SqL.of ep, atI_nat (j := 0) rfl, ?_⟩
    refine ⟨.ref st, rfl, st, c, r, t6, rfl, D8, by omega, fun H9 ov od D9 X9 hov _ _ hos => ?_⟩
    refine ⟨(show (5 : Nat) ≤ sizeLine by decide), fun Vs nVs => ?_⟩
    have oVs := D9.off nVs
    have D10 := D9.new nVs (o := .lst [.str (S T), .str (S (T ++ [10])), .str (S l0), ov, .str (S [])])
    have eV10 : (upd H9 Vs (.lst [.str (S T), .str (S (T ++ [10])), .str (S l0), ov, .str (S [])])) Vs = some (.lst [.str (S T), .str (S (T ++ [10])), .str (S l0), ov, .str (S [])]) := upd_same
    have hall10 : ∀ v ∈ [V.str (S T), .str (S (T ++ [10])), .str (S l0), ov, .str (S [])], (∃ b, v = .str (S b) ∧ Good (.str (S b))) ∨ v = ov := by
      intro v hv
      simp only [List.mem_cons, List.not_mem_nil, or_false] at hv
      rcases hv with rfl | rfl | rfl | rfl | rfl
      · exact .inl ⟨_, rfl, good_str (by omega) bT (by decide)⟩
      · exact .inl ⟨_, rfl, good_str (by rw [List.length_append]; simp only [List.length_cons, List.length_nil]; omega) (bT.app (RB.len (Nat.le_refl _))) (by decide)⟩
      · exact .inl ⟨_, rfl, good_str (by omega) bl0 (by decide)⟩
      · exact .inr rfl
      · exact .inl ⟨_, rfl, good_str (B := 0) (by simp) (RB.len (by simp)) (by decide)⟩
    have good_od : Good od := fun b e => ⟨by have := hos b e; omega, RB.len (by have := hos b e; omega)⟩
    have l10 : Lasts st r H9 (upd H9 Vs (.lst [.str (S T), .str (S (T ++ [10])), .str (S l0), ov, .str (S [])])) := Lasts.new nVs
    change (gName 4 (V.ref Vs) _ (upd H9 Vs (.lst [.str (S T), .str (S (T ++ [10])), .str (S l0), ov, .str (S [])])) _)
    generalize upd H9 Vs (.lst [.str (S T), .str (S (T ++ [10])), .str (S l0), ov, .str (S [])]) = H10 at D10 eV10 l10 ⊢
    -- eight changed ones
    refine ⟨8, rfl, by decide, by decide, for_it (walk_range (lo := 0) (n := (8 : Int).toNat))
      (fun j σ Hj => ∃ (y5 y6 : Option V) (tj : Nat) (vs : List V), σ = [some (.ref a), some (.ref st), some (.int (0 + (i : Nat))), some (.str (S T)), some (.ref Vs), y5, y6, y7] ∧ DS Hj st c r tj ∧ tj ≤ t6 + 1 + 21 * j ∧ Hj Vs = some (.lst vs) ∧ vs.length = 5 + j ∧ Lasts st r H9 Hj ∧ ∀ v ∈ vs, (∃ b, v = .str (S b) ∧ Good (.str (S b))) ∨ v = ov)
      ⟨_, _, _, _, rfl, D10, by omega, eV10, rfl, l10, hall10⟩ (fun _ _ _ _ _ => trivial) ?_ ?_⟩
    · rintro j v σ Hk Hj hltj ⟨y5, y6, tj, vs, rfl, Dj, htj, eVj, lvs, lj, hgj⟩ ⟨rfl, rfl⟩
      have hj8 : j < 8 := hltj
      refine ⟨.ref st, rfl, .str (S T), rfl, st, c, r, tj, T, rfl, Dj, by omega, by omega, fun Ha b1 ta Da hta Xa chA => ?_⟩
      have lb1 : b1.length ≤ 5460 := by have := chA.len; omega
      have bb1 : RB nl 194 b1 := chA.nl 90 bT
      refine ⟨.ref Vs, rfl, .inl ⟨rfl, _, SqL.of (Xa _ _ eVj oVs.1 oVs.2.2)⟩, .str (S b1), rfl, .ref st, rfl, .str (S b1), rfl, st, c, r, ta, b1, rfl, Da, by omega, by omega, fun Hb b2 tb Db htb Xb chB => ⟨two, fun Lp nLp => ?_⟩⟩
      have lb2 : b2.length ≤ 80000 := by have := chB.len; omega
      have bb2 : RB nl 402 b2 := chB.nl 194 bb1
      have eLp : (upd Hb Lp (.lst [.str (S b1), .str (S b2)])) Lp = some (.lst [.str (S b1), .str (S b2)]) := upd_same
      have oLp := Db.off nLp
      have Dc := Db.new nLp (o := .lst [.str (S b1), .str (S b2)])
      have lab : Lasts st r H9 (upd Hb Lp (.lst [.str (S b1), .str (S b2)])) := ((lj.trans (Lasts.ext Dj Xa)).trans (Lasts.ext Da Xb)).trans (Lasts.new nLp)
      have eVc : (upd Hb Lp (.lst [.str (S b1), .str (S b2)])) Vs = some (.lst vs) := upNew nLp (Xb _ _ (Xa _ _ eVj oVs.1 oVs.2.2) oVs.1 oVs.2.2)
      generalize upd Hb Lp (.lst [.str (S b1), .str (S b2)]) = Hc at eLp Dc lab eVc ⊢
      refine ⟨.ref st, rfl, st, c, r, tb, 2, rfl, Dc, by omega, by decide, by decide, fun Hd z hz0 hz1 Dd Xd => ?_⟩
      have eVd := Xd _ _ eVc oVs.1 oVs.2.2
      obtain ⟨b, hb, gb⟩ : ∃ b, atI [V.str (S b1), V.str (S b2)] z = some (.str (S b)) ∧ Good (.str (S b)) := by
        obtain h | h : z = 0 ∨ z = 1 := by omega
        · exact ⟨b1, by rw [h]; rfl, good_str (by omega) bb1 (by decide)⟩
        · exact ⟨b2, by rw [h]; rfl, good_str lb2 bb2 (by decide)⟩
      refine ⟨Lp, _, _, _, rfl, rfl, SqL.of (Xd _ _ eLp oLp.1 oLp.2.2), hb, Vs, _, _, rfl, rfl, eVd, small (by omega), ?_⟩
      refine ⟨_, _, tb + 1, vs ++ [.str (S b)], rfl, Dd.put oVs.1 oVs.2.1 oVs.2.2, by omega, upd_same, by rw [List.length_append]; simp only [List.length_cons, List.length_nil]; omega, lasts_put (lab.trans (Lasts.ext Dc Xd)) nVs, fun v hv => ?_⟩
      rcases List.mem_append.mp hv with e | e
      · exact hgj v e
      · exact .inl ⟨b, by simpa using e, gb⟩
    · rintro σ Hj ⟨y5, y6, tj, vs, rfl, Dj, htj, eVj, lvs, lj, hgj⟩
      refine ⟨.ref Vs, rfl, Vs, rfl, ⟨_, SqL.of eVj⟩, for_it (walk_list (K := K) (a := Vs) (xs := vs))
        (fun k σ Hk => ∃ (y7 : Option V), σ = [some (.ref a), some (.ref st), some (.int (0 + (i : Nat))), some (.str (S T)), some (.ref Vs), y5, y6, y7] ∧ Same Hj Hk)
        ⟨_, rfl, Same.refl _⟩ (fun k σ Hk _ h => by obtain ⟨_, _, s⟩ := h; exact SqL.of (s _ _ eVj)) ?_ ?_⟩
      · rintro k v σ Hl Hk hltk ⟨y7, rfl, sk⟩ ⟨rfl, hx⟩
        have hx : vs[k]? = some v := hx
        obtain ⟨d, hqd, gd⟩ : ∃ d, Dq K st r Hj v d ∧ Good d := by
          rcases hgj v (List.mem_of_getElem? hx) with ⟨b, rfl, gb⟩ | rfl
          · exact ⟨_, .str _, gb⟩
          · exact ⟨od, hov.lasts lj, good_od⟩
        have dp := due_plain gd
        refine ⟨v, rfl, st, r, v, d, rfl, hqd.lasts (.of sk), gd, fun H1 p1 s1 h1 => ?_⟩
        refine ⟨v, rfl, st, r, v, d, rfl, hqd.lasts (.of (sk.trans s1)), gd, fun H2 p2 s2 h2 => ?_⟩
        exact ⟨.ref p1, .ref p2, _, rfl, same_dp s2 dp.1 h1, h2, dp.1, dp.2, fun H3 s3 => ⟨_, rfl, iteF ⟨_, rfl, ((sk.trans s1).trans s2).trans s3⟩⟩⟩
      · rintro σ Hk ⟨y7, rfl, sk⟩
        exact ⟨_, _, _, _, _, _, tj, rfl, Dj.same sk, by omega⟩
end
end Pv

namespace Pv
open PySem PySem.Spec PyProof.Rows L2
abbrev siBT : Stmt := inCls (topS 12) 0
theorem sciBT : FnScope ["self", "index"] ["self", "index"] (defScope siBT) := ⟨rfl, rfl, rfl, by decide +kernel, rfl, by decide +kernel, by decide +kernel⟩
theorem ok_iBT {P : Program} {w : World} {K : PySem.W.Frag} {mg : Str → Option Value} {base : Heap} {f C : Addr} {fd : FuncData} (F : Fun K "__init__" "BadText.__init__" siBT f fd) (X : XF K C f "index") : FnOk P w K mg base CX0 1 f fd ["self", "index"] (spI1 C "index") := by
  refine F.ok sciBT (fun vs H Q E h => ?_) (fun cdv A outer s H vs Q E hr h => ?_)
  · obtain ⟨a, v, rfl, _⟩ := h; rfl
  · obtain ⟨a, v, rfl, hH, q⟩ := h
    refine ⟨_, pss_one (ps_ost (pv 0) (pv 1)), ?_⟩
    exact ⟨v, rfl, .ref a, rfl, a, C, rfl, X.T, X.no, .inl ⟨hH, fun dx nd ne => q dx nd ne⟩⟩
end Pv

namespace Pv
open PySem PySem.Spec PyProof.Rows L2
/-! what the top has left -/
set_option maxHeartbeats 8000000 in
theorem all_mk {l : PySem.W.OpenLaw} {w : World} {K : PySem.W.Frag} {h : Heap} {mg : Str → Option Value} {fa fWh fWi fTo1 fPe fGe fPl fPn fPs fPi fPp fPg fSt fDr fOn fSm fMx fAm fIn fOd fLt fNu fCh fGp fDu fTo fLaw : Addr} (X : K.In h) (G : h.Ns mainGlobals mg) (hfa : mg "law" = some (.ref fa))
    {odWh anWh odWi anWi odTo1 anTo1 odPe anPe odGe anGe odPl anPl odPn anPn odPs anPs odPi anPi odPp anPp odPg anPg odSt anSt odDr anDr odOn anOn odSm anSm odMx anMx odAm anAm odIn anIn odOd anOd odLt anLt odNu anNu odCh anCh odGp anGp odDu anDu odTo anTo odLaw anLaw : Option Addr} {slWh slWi slTo1 slPe slGe slPl slPn slPs slPi slPp slPg slSt slDr slOn slSm slMx slAm slIn slOd slLt slNu slCh slGp slDu slTo slLaw : Array (Option Value)}
    {ocWh kVWh dcWh pmWh cdWh ctWh ocWi kVWi dcWi pmWi cdWi ctWi ocTo1 kVTo1 dcTo1 pmTo1 cdTo1 ctTo1 ocPe kVPe dcPe pmPe cdPe ctPe ocGe kVGe dcGe pmGe cdGe ctGe ocPl kVPl dcPl pmPl cdPl ctPl ocPn kVPn dcPn pmPn cdPn ctPn ocPs kVPs dcPs pmPs cdPs ctPs ocPi kVPi dcPi pmPi cdPi ctPi ocPp kVPp dcPp pmPp cdPp ctPp ocPg kVPg dcPg pmPg cdPg ctPg ocSt kVSt dcSt pmSt cdSt ctSt ocDr kVDr dcDr pmDr cdDr ctDr ocOn kVOn dcOn pmOn cdOn ctOn ocSm kVSm dcSm pmSm cdSm ctSm ocMx kVMx dcMx pmMx cdMx ctMx ocAm kVAm dcAm pmAm cdAm ctAm ocIn kVIn dcIn pmIn cdIn ctIn ocOd kVOd dcOd pmOd cdOd ctOd ocLt kVLt dcLt pmLt cdLt ctLt ocNu kVNu dcNu pmNu cdNu ctNu ocCh kVCh dcCh pmCh cdCh ctCh ocGp kVGp dcGp pmGp cdGp ctGp ocDu kVDu dcDu pmDu cdDu ctDu ocTo kVTo dcTo pmTo cdTo ctTo ocLaw kVLaw dcLaw pmLaw cdLaw ctLaw : Value}
    (aWh : PySem.W.nsIn K mainGlobals "is_whole" = some (some (.ref fWh))) (lWh : K.lookup fWh = some ⟨ocWh, odWh, .func (PySem.W.fnOf "is_whole" "is_whole" (defArgs sWhole) (defBody sWhole) (defScope sWhole) .none kVWh dcWh pmWh anWh cdWh ctWh), slWh⟩)
      (cWh : PySem.W.codeIn K cdWh "is_whole" = true) (kWh : PySem.W.keepIn K (.ref fWh) = true)
    (aWi : PySem.W.nsIn K mainGlobals "is_within" = some (some (.ref fWi))) (lWi : K.lookup fWi = some ⟨ocWi, odWi, .func (PySem.W.fnOf "is_within" "is_within" (defArgs sWithin) (defBody sWithin) (defScope sWithin) .none kVWi dcWi pmWi anWi cdWi ctWi), slWi⟩)
      (cWi : PySem.W.codeIn K cdWi "is_within" = true) (kWi : PySem.W.keepIn K (.ref fWi) = true)
    (aTo1 : PySem.W.nsIn K mainGlobals "is_tuple_of" = some (some (.ref fTo1))) (lTo1 : K.lookup fTo1 = some ⟨ocTo1, odTo1, .func (PySem.W.fnOf "is_tuple_of" "is_tuple_of" (defArgs sTupOf) (defBody sTupOf) (defScope sTupOf) .none kVTo1 dcTo1 pmTo1 anTo1 cdTo1 ctTo1), slTo1⟩)
      (cTo1 : PySem.W.codeIn K cdTo1 "is_tuple_of" = true) (kTo1 : PySem.W.keepIn K (.ref fTo1) = true)
    (aPe : PySem.W.nsIn K mainGlobals "posts_error" = some (some (.ref fPe))) (lPe : K.lookup fPe = some ⟨ocPe, odPe, .func (PySem.W.fnOf "posts_error" "posts_error" (defArgs sPErr) (defBody sPErr) (defScope sPErr) .none kVPe dcPe pmPe anPe cdPe ctPe), slPe⟩)
      (cPe : PySem.W.codeIn K cdPe "posts_error" = true) (kPe : PySem.W.keepIn K (.ref fPe) = true)
    (aGe : PySem.W.nsIn K mainGlobals "groups_error" = some (some (.ref fGe))) (lGe : K.lookup fGe = some ⟨ocGe, odGe, .func (PySem.W.fnOf "groups_error" "groups_error" (defArgs sGErr) (defBody sGErr) (defScope sGErr) .none kVGe dcGe pmGe anGe cdGe ctGe), slGe⟩)
      (cGe : PySem.W.codeIn K cdGe "groups_error" = true) (kGe : PySem.W.keepIn K (.ref fGe) = true)
    (aPl : PySem.W.nsIn K mainGlobals "is_post_list" = some (some (.ref fPl))) (lPl : K.lookup fPl = some ⟨ocPl, odPl, .func (PySem.W.fnOf "is_post_list" "is_post_list" (defArgs sPList) (defBody sPList) (defScope sPList) .none kVPl dcPl pmPl anPl cdPl ctPl), slPl⟩)
      (cPl : PySem.W.codeIn K cdPl "is_post_list" = true) (kPl : PySem.W.keepIn K (.ref fPl) = true)
    (aPn : PySem.W.nsIn K mainGlobals "parse_number" = some (some (.ref fPn))) (lPn : K.lookup fPn = some ⟨ocPn, odPn, .func (PySem.W.fnOf "parse_number" "parse_number" (defArgs sPn) (defBody sPn) (defScope sPn) .none kVPn dcPn pmPn anPn cdPn ctPn), slPn⟩)
      (cPn : PySem.W.codeIn K cdPn "parse_number" = true) (kPn : PySem.W.keepIn K (.ref fPn) = true)
    (aPs : PySem.W.nsIn K mainGlobals "parse_numbers" = some (some (.ref fPs))) (lPs : K.lookup fPs = some ⟨ocPs, odPs, .func (PySem.W.fnOf "parse_numbers" "parse_numbers" (defArgs sPs) (defBody sPs) (defScope sPs) .none kVPs dcPs pmPs anPs cdPs ctPs), slPs⟩)
      (cPs : PySem.W.codeIn K cdPs "parse_numbers" = true) (kPs : PySem.W.keepIn K (.ref fPs) = true)
    (aPi : PySem.W.nsIn K mainGlobals "parse_instance" = some (some (.ref fPi))) (lPi : K.lookup fPi = some ⟨ocPi, odPi, .func (PySem.W.fnOf "parse_instance" "parse_instance" (defArgs sPi) (defBody sPi) (defScope sPi) .none kVPi dcPi pmPi anPi cdPi ctPi), slPi⟩)
      (cPi : PySem.W.codeIn K cdPi "parse_instance" = true) (kPi : PySem.W.keepIn K (.ref fPi) = true)
    (aPp : PySem.W.nsIn K mainGlobals "parse_posts" = some (some (.ref fPp))) (lPp : K.lookup fPp = some ⟨ocPp, odPp, .func (PySem.W.fnOf "parse_posts" "parse_posts" (defArgs sPp) (defBody sPp) (defScope sPp) .none kVPp dcPp pmPp anPp cdPp ctPp), slPp⟩)
      (cPp : PySem.W.codeIn K cdPp "parse_posts" = true) (kPp : PySem.W.keepIn K (.ref fPp) = true)
    (aPg : PySem.W.nsIn K mainGlobals "parse_group" = some (some (.ref fPg))) (lPg : K.lookup fPg = some ⟨ocPg, odPg, .func (PySem.W.fnOf "parse_group" "parse_group" (defArgs sPg) (defBody sPg) (defScope sPg) .none kVPg dcPg pmPg anPg cdPg ctPg), slPg⟩)
      (cPg : PySem.W.codeIn K cdPg "parse_group" = true) (kPg : PySem.W.keepIn K (.ref fPg) = true)
    (aSt : PySem.W.nsIn K mainGlobals "_law_deck" = some (some (.ref fSt))) (lSt : K.lookup fSt = some ⟨ocSt, odSt, .func (PySem.W.fnOf "_law_deck" "_law_deck" (defArgs sStart) (defBody sStart) (defScope sStart) .none kVSt dcSt pmSt anSt cdSt ctSt), slSt⟩)
      (cSt : PySem.W.codeIn K cdSt "_law_deck" = true) (kSt : PySem.W.keepIn K (.ref fSt) = true)
    (aDr : PySem.W.nsIn K mainGlobals "_law_next" = some (some (.ref fDr))) (lDr : K.lookup fDr = some ⟨ocDr, odDr, .func (PySem.W.fnOf "_law_next" "_law_next" (defArgs sDraw) (defBody sDraw) (defScope sDraw) .none kVDr dcDr pmDr anDr cdDr ctDr), slDr⟩)
      (cDr : PySem.W.codeIn K cdDr "_law_next" = true) (kDr : PySem.W.keepIn K (.ref fDr) = true)
    (aOn : PySem.W.nsIn K mainGlobals "_law_one" = some (some (.ref fOn))) (lOn : K.lookup fOn = some ⟨ocOn, odOn, .func (PySem.W.fnOf "_law_one" "_law_one" (defArgs sOne) (defBody sOne) (defScope sOne) .none kVOn dcOn pmOn anOn cdOn ctOn), slOn⟩)
      (cOn : PySem.W.codeIn K cdOn "_law_one" = true) (kOn : PySem.W.keepIn K (.ref fOn) = true)
    (aSm : PySem.W.nsIn K mainGlobals "_law_same" = some (some (.ref fSm))) (lSm : K.lookup fSm = some ⟨ocSm, odSm, .func (PySem.W.fnOf "_law_same" "_law_same" (defArgs sSame) (defBody sSame) (defScope sSame) .none kVSm dcSm pmSm anSm cdSm ctSm), slSm⟩)
      (cSm : PySem.W.codeIn K cdSm "_law_same" = true) (kSm : PySem.W.keepIn K (.ref fSm) = true)
    (aMx : PySem.W.nsIn K mainGlobals "_law_mixed" = some (some (.ref fMx))) (lMx : K.lookup fMx = some ⟨ocMx, odMx, .func (PySem.W.fnOf "_law_mixed" "_law_mixed" (defArgs sMix) (defBody sMix) (defScope sMix) .none kVMx dcMx pmMx anMx cdMx ctMx), slMx⟩)
      (cMx : PySem.W.codeIn K cdMx "_law_mixed" = true) (kMx : PySem.W.keepIn K (.ref fMx) = true)
    (aAm : PySem.W.nsIn K mainGlobals "_law_amount" = some (some (.ref fAm))) (lAm : K.lookup fAm = some ⟨ocAm, odAm, .func (PySem.W.fnOf "_law_amount" "_law_amount" (defArgs sAmo) (defBody sAmo) (defScope sAmo) .none kVAm dcAm pmAm anAm cdAm ctAm), slAm⟩)
      (cAm : PySem.W.codeIn K cdAm "_law_amount" = true) (kAm : PySem.W.keepIn K (.ref fAm) = true)
    (aIn : PySem.W.nsIn K mainGlobals "_law_instance" = some (some (.ref fIn))) (lIn : K.lookup fIn = some ⟨ocIn, odIn, .func (PySem.W.fnOf "_law_instance" "_law_instance" (defArgs sInst) (defBody sInst) (defScope sInst) .none kVIn dcIn pmIn anIn cdIn ctIn), slIn⟩)
      (cIn : PySem.W.codeIn K cdIn "_law_instance" = true) (kIn : PySem.W.keepIn K (.ref fIn) = true)
    (aOd : PySem.W.nsIn K mainGlobals "_law_odd" = some (some (.ref fOd))) (lOd : K.lookup fOd = some ⟨ocOd, odOd, .func (PySem.W.fnOf "_law_odd" "_law_odd" (defArgs sOdd) (defBody sOdd) (defScope sOdd) .none kVOd dcOd pmOd anOd cdOd ctOd), slOd⟩)
      (cOd : PySem.W.codeIn K cdOd "_law_odd" = true) (kOd : PySem.W.keepIn K (.ref fOd) = true)
    (aLt : PySem.W.nsIn K mainGlobals "_law_text" = some (some (.ref fLt))) (lLt : K.lookup fLt = some ⟨ocLt, odLt, .func (PySem.W.fnOf "_law_text" "_law_text" (defArgs sLt) (defBody sLt) (defScope sLt) .none kVLt dcLt pmLt anLt cdLt ctLt), slLt⟩)
      (cLt : PySem.W.codeIn K cdLt "_law_text" = true) (kLt : PySem.W.keepIn K (.ref fLt) = true)
    (aNu : PySem.W.nsIn K mainGlobals "_law_number" = some (some (.ref fNu))) (lNu : K.lookup fNu = some ⟨ocNu, odNu, .func (PySem.W.fnOf "_law_number" "_law_number" (defArgs sNu) (defBody sNu) (defScope sNu) .none kVNu dcNu pmNu anNu cdNu ctNu), slNu⟩)
      (cNu : PySem.W.codeIn K cdNu "_law_number" = true) (kNu : PySem.W.keepIn K (.ref fNu) = true)
    (aCh : PySem.W.nsIn K mainGlobals "_law_changed" = some (some (.ref fCh))) (lCh : K.lookup fCh = some ⟨ocCh, odCh, .func (PySem.W.fnOf "_law_changed" "_law_changed" (defArgs sCh) (defBody sCh) (defScope sCh) .none kVCh dcCh pmCh anCh cdCh ctCh), slCh⟩)
      (cCh : PySem.W.codeIn K cdCh "_law_changed" = true) (kCh : PySem.W.keepIn K (.ref fCh) = true)
    (aGp : PySem.W.nsIn K mainGlobals "_law_group" = some (some (.ref fGp))) (lGp : K.lookup fGp = some ⟨ocGp, odGp, .func (PySem.W.fnOf "_law_group" "_law_group" (defArgs sGp) (defBody sGp) (defScope sGp) .none kVGp dcGp pmGp anGp cdGp ctGp), slGp⟩)
      (cGp : PySem.W.codeIn K cdGp "_law_group" = true) (kGp : PySem.W.keepIn K (.ref fGp) = true)
    (aDu : PySem.W.nsIn K mainGlobals "_law_due" = some (some (.ref fDu))) (lDu : K.lookup fDu = some ⟨ocDu, odDu, .func (PySem.W.fnOf "_law_due" "_law_due" (defArgs sDu) (defBody sDu) (defScope sDu) .none kVDu dcDu pmDu anDu cdDu ctDu), slDu⟩)
      (cDu : PySem.W.codeIn K cdDu "_law_due" = true) (kDu : PySem.W.keepIn K (.ref fDu) = true)
    (aTo : PySem.W.nsIn K mainGlobals "_law_told" = some (some (.ref fTo))) (lTo : K.lookup fTo = some ⟨ocTo, odTo, .func (PySem.W.fnOf "_law_told" "_law_told" (defArgs sTo) (defBody sTo) (defScope sTo) .none kVTo dcTo pmTo anTo cdTo ctTo), slTo⟩)
      (cTo : PySem.W.codeIn K cdTo "_law_told" = true) (kTo : PySem.W.keepIn K (.ref fTo) = true)
    (aLaw : PySem.W.nsIn K mainGlobals "law" = some (some (.ref fLaw))) (lLaw : K.lookup fLaw = some ⟨ocLaw, odLaw, .func (PySem.W.fnOf "law" "law" (defArgs sLaw) (defBody sLaw) (defScope sLaw) .none kVLaw dcLaw pmLaw anLaw cdLaw ctLaw), slLaw⟩)
      (cLaw : PySem.W.codeIn K cdLaw "law" = true) (kLaw : PySem.W.keepIn K (.ref fLaw) = true)
    (z0 : PySem.W.nsIn K mainGlobals "isinstance" = some none)
    (z1 : PySem.W.nsIn K mainGlobals "int" = some none)
    (z2 : PySem.W.nsIn K mainGlobals "bool" = some none)
    (z3 : PySem.W.nsIn K mainGlobals "str" = some none)
    (z4 : PySem.W.nsIn K mainGlobals "tuple" = some none)
    (z5 : PySem.W.nsIn K mainGlobals "list" = some none)
    (z6 : PySem.W.nsIn K mainGlobals "len" = some none)
    (z7 : PySem.W.nsIn K mainGlobals "abs" = some none)
    (z8 : PySem.W.nsIn K mainGlobals "min" = some none)
    (z9 : PySem.W.nsIn K mainGlobals "max" = some none)
    (z10 : PySem.W.nsIn K mainGlobals "range" = some none)
    (z11 : PySem.W.nsIn K mainGlobals "all" = some none)
    (z12 : PySem.W.nsIn K mainGlobals "enumerate" = some none)
    (z13 : PySem.W.nsIn K mainGlobals "sum" = some none)
    (z14 : PySem.W.nsIn K mainGlobals "set" = some none)
    {uPOSTS : Value} (y0 : PySem.W.nsIn K mainGlobals "POSTS" = some (some uPOSTS)) (rPOSTS : RelV (.int 6) uPOSTS)
    {uGROUPS : Value} (y1 : PySem.W.nsIn K mainGlobals "GROUPS" = some (some uGROUPS)) (rGROUPS : RelV (.int 10) uGROUPS)
    {uBIG : Value} (y2 : PySem.W.nsIn K mainGlobals "BIG" = some (some uBIG)) (rBIG : RelV (.int 1000000000000) uBIG)
    {uLONGEST : Value} (y3 : PySem.W.nsIn K mainGlobals "LONGEST" = some (some uLONGEST)) (rLONGEST : RelV (.int 30) uLONGEST)
    {cBT : Addr} (aCBT : PySem.W.nsIn K mainGlobals "BadText" = some (some (.ref cBT))) (iCBT : isCB K cBT = true)
    {cVE : Addr} (aCVE : PySem.W.nsIn K mainGlobals "VoteError" = some (some (.ref cVE))) (iCVE : isCB K cVE = true)
    {cBI : Addr} (aCBI : PySem.W.nsIn K mainGlobals "BadInstance" = some (some (.ref cBI))) (iCBI : isCB K cBI = true)
    {cBL : Addr} (aCBL : PySem.W.nsIn K mainGlobals "BadList" = some (some (.ref cBL))) (iCBL : isCB K cBL = true)
    {cBN : Addr} (aCBN : PySem.W.nsIn K mainGlobals "BadNumber" = some (some (.ref cBN))) (iCBN : isCB K cBN = true)
    {nmBT qnBT : Str} {NBT fiBT : Addr} {bsBT bmBT subBT : List Value} {snBT : List Str} {abBT : Bool} {colBT : Option Bool} {ddBT odiBT aniBT : Option Addr} {kaBT kbBT kcBT kdBT keBT : Option Value} {sliBT : Array (Option Value)} {ociBT kViBT dciBT pmiBT cdiBT ctiBT : Value}
    (lXBT : K.lookup cBT = some (excClassObj nmBT qnBT cBT NBT bsBT bmBT true snBT subBT abBT colBT ddBT kaBT kbBT kcBT kdBT keBT "ValueError.__new__")) (vXBT : PySem.HandSPX.refsVE bmBT = true)
    (nXBT : PySem.W.findIn K (.ref cBT) "__init__" = some (some (.ref fiBT))) (lIBT : K.lookup fiBT = some ⟨ociBT, odiBT, .func (PySem.W.fnOf "__init__" "BadText.__init__" (defArgs siBT) (defBody siBT) (defScope siBT) .none kViBT dciBT pmiBT aniBT cdiBT ctiBT), sliBT⟩) (cIBT : PySem.W.codeIn K cdiBT "BadText.__init__" = true) (kIBT : PySem.W.keepIn K (.ref fiBT) = true) (bXBT : xf1B K cBT fiBT "index" = true)
    (x1 : PySem.W.exmOne K (.ref cBT) (.ref cVE) = some true)
    (x2 : PySem.W.kitOne K (.ref cBT) (.ref cBT) = some true)
    (x3 : PySem.W.kitAny K (.ref cBT) [.ref cBI, .ref cBL, .ref cBN] = some false)
    : ∃ fd : FuncData, (∀ (s : Shared) (v : Value), BindsTo s fd ⟨[v], []⟩ [("_law_script", v)]) ∧ ∀ base : Heap, K.In base → base.Ns mainGlobals mg → FnG l.prog w K mg base 9 fa fd ["_law_script"] (spLaw K) := by
  have e := hfa.symm.trans (PySem.W.mg_of X G aLaw)
  cases e
  have FWh := fun_mk (st := sWhole) lWh cWh kWh
  have bWh := FWh.binds (ps := ["value"]) fun _ _ _ _ _ _ us hl => match us, hl with | [_], _ => rfl
  have gWh := PySem.W.mg_of X G aWh
  have FWi := fun_mk (st := sWithin) lWi cWi kWi
  have bWi := FWi.binds (ps := ["value", "least", "most"]) fun _ _ _ _ _ _ us hl => match us, hl with | [_, _, _], _ => rfl
  have gWi := PySem.W.mg_of X G aWi
  have FTo1 := fun_mk (st := sTupOf) lTo1 cTo1 kTo1
  have bTo1 := FTo1.binds (ps := ["value", "least", "most"]) fun _ _ _ _ _ _ us hl => match us, hl with | [_, _, _], _ => rfl
  have gTo1 := PySem.W.mg_of X G aTo1
  have FPe := fun_mk (st := sPErr) lPe cPe kPe
  have bPe := FPe.binds (ps := ["posts"]) fun _ _ _ _ _ _ us hl => match us, hl with | [_], _ => rfl
  have gPe := PySem.W.mg_of X G aPe
  have FGe := fun_mk (st := sGErr) lGe cGe kGe
  have bGe := FGe.binds (ps := ["groups", "post_count"]) fun _ _ _ _ _ _ us hl => match us, hl with | [_, _], _ => rfl
  have gGe := PySem.W.mg_of X G aGe
  have FPl := fun_mk (st := sPList) lPl cPl kPl
  have bPl := FPl.binds (ps := ["value", "post_count"]) fun _ _ _ _ _ _ us hl => match us, hl with | [_, _], _ => rfl
  have gPl := PySem.W.mg_of X G aPl
  have FPn := fun_mk (st := sPn) lPn cPn kPn
  have bPn := FPn.binds (ps := ["text", "digits"]) fun _ _ _ _ _ _ us hl => match us, hl with | [_, _], _ => rfl
  have gPn := PySem.W.mg_of X G aPn
  have FPs := fun_mk (st := sPs) lPs cPs kPs
  have bPs := FPs.binds (ps := ["words"]) fun _ _ _ _ _ _ us hl => match us, hl with | [_], _ => rfl
  have gPs := PySem.W.mg_of X G aPs
  have FPi := fun_mk (st := sPi) lPi cPi kPi
  have bPi := FPi.binds (ps := ["text"]) fun _ _ _ _ _ _ us hl => match us, hl with | [_], _ => rfl
  have gPi := PySem.W.mg_of X G aPi
  have FPp := fun_mk (st := sPp) lPp cPp kPp
  have bPp := FPp.binds (ps := ["line"]) fun _ _ _ _ _ _ us hl => match us, hl with | [_], _ => rfl
  have gPp := PySem.W.mg_of X G aPp
  have FPg := fun_mk (st := sPg) lPg cPg kPg
  have bPg := FPg.binds (ps := ["line", "post_count"]) fun _ _ _ _ _ _ us hl => match us, hl with | [_, _], _ => rfl
  have gPg := PySem.W.mg_of X G aPg
  have FSt := fun_mk (st := sStart) lSt cSt kSt
  have bSt := FSt.binds (ps := ["_law_script"]) fun _ _ _ _ _ _ us hl => match us, hl with | [_], _ => rfl
  have gSt := PySem.W.mg_of X G aSt
  have FDr := fun_mk (st := sDraw) lDr cDr kDr
  have bDr := FDr.binds (ps := ["_law_deck_here", "_law_many"]) fun _ _ _ _ _ _ us hl => match us, hl with | [_, _], _ => rfl
  have gDr := PySem.W.mg_of X G aDr
  have FOn := fun_mk (st := sOne) lOn cOn kOn
  have bOn := FOn.binds (ps := ["_law_deck_here", "_law_items"]) fun _ _ _ _ _ _ us hl => match us, hl with | [_, _], _ => rfl
  have gOn := PySem.W.mg_of X G aOn
  have FSm := fun_mk (st := sSame) lSm cSm kSm
  have bSm := FSm.binds (ps := ["_law_found", "_law_due_here"]) fun _ _ _ _ _ _ us hl => match us, hl with | [_, _], _ => rfl
  have gSm := PySem.W.mg_of X G aSm
  have FMx := fun_mk (st := sMix) lMx cMx kMx
  have bMx := FMx.binds (ps := ["_law_deck_here", "_law_items"]) fun _ _ _ _ _ _ us hl => match us, hl with | [_, _], _ => rfl
  have gMx := PySem.W.mg_of X G aMx
  have FAm := fun_mk (st := sAmo) lAm cAm kAm
  have bAm := FAm.binds (ps := ["_law_deck_here", "_law_far"]) fun _ _ _ _ _ _ us hl => match us, hl with | [_, _], _ => rfl
  have gAm := PySem.W.mg_of X G aAm
  have FIn := fun_mk (st := sInst) lIn cIn kIn
  have bIn := FIn.binds (ps := ["_law_deck_here", "_law_posts", "_law_groups", "_law_far"]) fun _ _ _ _ _ _ us hl => match us, hl with | [_, _, _, _], _ => rfl
  have gIn := PySem.W.mg_of X G aIn
  have FOd := fun_mk (st := sOdd) lOd cOd kOd
  have bOd := FOd.binds (ps := ["_law_deck_here"]) fun _ _ _ _ _ _ us hl => match us, hl with | [_], _ => rfl
  have gOd := PySem.W.mg_of X G aOd
  have FLt := fun_mk (st := sLt) lLt cLt kLt
  have bLt := FLt.binds (ps := ["_law_instance_here"]) fun _ _ _ _ _ _ us hl => match us, hl with | [_], _ => rfl
  have gLt := PySem.W.mg_of X G aLt
  have FNu := fun_mk (st := sNu) lNu cNu kNu
  have bNu := FNu.binds (ps := ["_law_word"]) fun _ _ _ _ _ _ us hl => match us, hl with | [_], _ => rfl
  have gNu := PySem.W.mg_of X G aNu
  have FCh := fun_mk (st := sCh) lCh cCh kCh
  have bCh := FCh.binds (ps := ["_law_deck_here", "_law_text_here"]) fun _ _ _ _ _ _ us hl => match us, hl with | [_, _], _ => rfl
  have gCh := PySem.W.mg_of X G aCh
  have FGp := fun_mk (st := sGp) lGp cGp kGp
  have bGp := FGp.binds (ps := ["_law_many", "_law_line"]) fun _ _ _ _ _ _ us hl => match us, hl with | [_, _], _ => rfl
  have gGp := PySem.W.mg_of X G aGp
  have FDu := fun_mk (st := sDu) lDu cDu kDu
  have bDu := FDu.binds (ps := ["_law_value"]) fun _ _ _ _ _ _ us hl => match us, hl with | [_], _ => rfl
  have gDu := PySem.W.mg_of X G aDu
  have FTo := fun_mk (st := sTo) lTo cTo kTo
  have bTo := FTo.binds (ps := ["_law_value"]) fun _ _ _ _ _ _ us hl => match us, hl with | [_], _ => rfl
  have gTo := PySem.W.mg_of X G aTo
  have FLaw := fun_mk (st := sLaw) lLaw cLaw kLaw
  have m_isinstance := PySem.W.mg_none_of X G z0
  have m_int := PySem.W.mg_none_of X G z1
  have m_bool := PySem.W.mg_none_of X G z2
  have m_str := PySem.W.mg_none_of X G z3
  have m_tuple := PySem.W.mg_none_of X G z4
  have m_list := PySem.W.mg_none_of X G z5
  have m_len := PySem.W.mg_none_of X G z6
  have m_abs := PySem.W.mg_none_of X G z7
  have m_min := PySem.W.mg_none_of X G z8
  have m_max := PySem.W.mg_none_of X G z9
  have m_range := PySem.W.mg_none_of X G z10
  have m_all := PySem.W.mg_none_of X G z11
  have m_enumerate := PySem.W.mg_none_of X G z12
  have m_sum := PySem.W.mg_none_of X G z13
  have m_set := PySem.W.mg_none_of X G z14
  have vPOSTS := PySem.W.mg_of X G y0
  have vGROUPS := PySem.W.mg_of X G y1
  have vBIG := PySem.W.mg_of X G y2
  have vLONGEST := PySem.W.mg_of X G y3
  have gBT := PySem.W.mg_of X G aCBT
  have IBT := isCB_ok iCBT
  have gVE := PySem.W.mg_of X G aCVE
  have IVE := isCB_ok iCVE
  have gBI := PySem.W.mg_of X G aCBI
  have IBI := isCB_ok iCBI
  have gBL := PySem.W.mg_of X G aCBL
  have IBL := isCB_ok iCBL
  have gBN := PySem.W.mg_of X G aCBN
  have IBN := isCB_ok iCBN
  have XBT := xf1B_ok bXBT ⟨_, _, _, _, _, _, _, _, _, _, _, _, _, _, _, lXBT, vXBT⟩
  have FiBT := fun_mk (st := siBT) lIBT cIBT kIBT
  have biBT := FiBT.binds (ps := ["self", "index"]) fun _ _ _ _ _ _ us hl => match us, hl with | [_, _], _ => rfl
  refine ⟨PySem.W.fnOf "law" "law" (defArgs sLaw) (defBody sLaw) (defScope sLaw) .none kVLaw dcLaw pmLaw anLaw cdLaw ctLaw, fun s v => .of_eq rfl, fun base _ _ => ?_⟩
  have GiBT := ok_iBT (P := l.prog) (w := w) (base := base) (mg := mg) FiBT XBT
  have GWh := ok_whole (P := l.prog) (w := w) (base := base) (mg := mg) (k := 0) FWh m_isinstance m_int m_bool
  have GWi := ok_within (P := l.prog) (w := w) (base := base) (mg := mg) (k := 0) FWi FWh bWh gWh GWh
  have GTo1 := ok_tupOf (P := l.prog) (w := w) (base := base) (mg := mg) (k := 0) FTo1 m_isinstance m_tuple m_len
  have GPl := ok_plist (P := l.prog) (w := w) (base := base) (mg := mg) (k := 0) FPl FTo1 bTo1 gTo1 GTo1 FWi bWi gWi GWi m_len m_all m_set
  have GPe := ok_perr (P := l.prog) (w := w) (base := base) (mg := mg) (k := 2) FPe FTo1 bTo1 gTo1 GTo1 FWi bWi gWi GWi m_enumerate vPOSTS rPOSTS vBIG rBIG
  have GGe := ok_gerr (P := l.prog) (w := w) (base := base) (mg := mg) (k := 1) FGe FTo1 bTo1 gTo1 GTo1 FWi bWi gWi GWi FPl bPl gPl GPl m_enumerate vGROUPS rGROUPS vBIG rBIG
  have GPn := ok_Pn (P := l.prog) (w := w) (base := base) (mg := mg) FPn     m_len m_int
  have GPs := ok_Ps (P := l.prog) (w := w) (base := base) (mg := mg) FPs  FPn bPn gPn GPn  vLONGEST rLONGEST m_tuple
  have GPp := ok_Pp (P := l.prog) (w := w) (base := base) (mg := mg) FPp  FPs bPs gPs GPs FPe bPe gPe GPe   
  have GPg := ok_Pg (P := l.prog) (w := w) (base := base) (mg := mg) FPg  FPs bPs gPs GPs FPn bPn gPn GPn FGe bGe gGe GGe  vLONGEST rLONGEST 
  have GPi := ok_Pi (P := l.prog) (w := w) (base := base) (mg := mg) FPi  FPp bPp gPp GPp FPg bPg gPg GPg gBT XBT GiBT biBT vGROUPS rGROUPS m_str m_isinstance m_len m_range m_tuple
  have GLt := ok_Lt (P := l.prog) (w := w) (base := base) (mg := mg) FLt     m_str
  have GSt := ok_start (P := l.prog) (w := w) (base := base) (mg := mg) (k := 0) FSt m_abs m_int m_len
  have GDr := ok_draw (P := l.prog) (w := w) (base := base) (mg := mg) (k := 0) FDr m_len
  have GOn := ok_one (P := l.prog) (w := w) (base := base) (mg := mg) (k := 0) FOn FDr bDr gDr GDr m_len
  have GMx := ok_mix (P := l.prog) (w := w) (base := base) (mg := mg) (k := 0) FMx FDr bDr gDr GDr m_list m_len
  have GAm := ok_amo (P := l.prog) (w := w) (base := base) (mg := mg) (k := 0) FAm FDr bDr gDr GDr FOn bOn gOn GOn
  have GIn := ok_inst (P := l.prog) (w := w) (base := base) (mg := mg) (k := 0) FIn FDr bDr gDr GDr FOn bOn gOn GOn FMx bMx gMx GMx FAm bAm gAm GAm m_tuple m_range m_list m_sum m_max m_min
  have GSm := ok_same (P := l.prog) (w := w) (base := base) (mg := mg) FSm bSm gSm m_isinstance m_list m_tuple m_len m_range m_str m_int m_bool 6
  have GOd := ok_odd (P := l.prog) (w := w) (base := base) (mg := mg) (k := 0) FOd FDr bDr gDr GDr
  have GNu := ok_Nu (P := l.prog) (w := w) (base := base) (mg := mg) FNu     m_int
  have GGp := ok_Gp (P := l.prog) (w := w) (base := base) (mg := mg) FGp  FNu bNu gNu GNu   m_len m_set m_tuple
  have GDu := ok_Du (P := l.prog) (w := w) (base := base) (mg := mg) FDu  FNu bNu gNu GNu FGp bGp gGp GGp   m_str m_isinstance m_len m_range m_tuple
  have GCh := ok_Ch (P := l.prog) (w := w) (base := base) (mg := mg) FCh  FDr bDr gDr GDr FOn bOn gOn GOn   m_len m_int
  have GTo := ok_To (P := l.prog) (w := w) (base := base) (mg := mg) FTo FPi bPi gPi GPi gBT gVE gBI gBL gBN IBT XBT x1 x2 x3 m_isinstance
  exact ok_Law (P := l.prog) (w := w) (base := base) FLaw  FSt bSt gSt GSt FDr bDr gDr GDr FIn bIn gIn GIn FLt bLt gLt GLt FOd bOd gOd GOd FCh bCh gCh GCh FTo bTo gTo GTo FDu bDu gDu GDu FSm bSm gSm GSm   m_range
end Pv

open PySem PySem.W PyProof.Rows
set_option maxRecDepth 100000 in
set_option maxHeartbeats 0 in
theorem PySem.Challenge.cw_postvote_k72_other_texts_of_instances_holds : PySem.Challenge.rw_postvote_k72_other_texts_of_instances.Holds := by
  w_on; o_law; k_head; (case hw => w_witness2)
  k_fill
  refine Pv.walkG (l := PySem.Challenge.rw_postvote_k72_other_texts_of_instances) (n := 63) (k := 9) (x := "_law_script") (sp := fun w => Pv.spLaw _) rfl (by decide) rfl ⟨rfl, by decide, by decide⟩ (fun w h Y => PySem.W.kIn_of Y) ?F (fun _ _ a ns hl _ _ hS => ⟨a, ns, rfl, hS, hl, fun _ => rfl⟩)
  case F =>
    intro w mg fa h KX G hmg
    refine' Pv.all_mk KX G hmg ?aWh ?lWh ?cWh ?kWh ?aWi ?lWi ?cWi ?kWi ?aTo1 ?lTo1 ?cTo1 ?kTo1 ?aPe ?lPe ?cPe ?kPe ?aGe ?lGe ?cGe ?kGe ?aPl ?lPl ?cPl ?kPl ?aPn ?lPn ?cPn ?kPn ?aPs ?lPs ?cPs ?kPs ?aPi ?lPi ?cPi ?kPi ?aPp ?lPp ?cPp ?kPp ?aPg ?lPg ?cPg ?kPg ?aSt ?lSt ?cSt ?kSt ?aDr ?lDr ?cDr ?kDr ?aOn ?lOn ?cOn ?kOn ?aSm ?lSm ?cSm ?kSm ?aMx ?lMx ?cMx ?kMx ?aAm ?lAm ?cAm ?kAm ?aIn ?lIn ?cIn ?kIn ?aOd ?lOd ?cOd ?kOd ?aLt ?lLt ?cLt ?kLt ?aNu ?lNu ?cNu ?kNu ?aCh ?lCh ?cCh ?kCh ?aGp ?lGp ?cGp ?kGp ?aDu ?lDu ?cDu ?kDu ?aTo ?lTo ?cTo ?kTo ?aLaw ?lLaw ?cLaw ?kLaw ?z0 ?z1 ?z2 ?z3 ?z4 ?z5 ?z6 ?z7 ?z8 ?z9 ?z10 ?z11 ?z12 ?z13 ?z14 ?y0 ?rPOSTS ?y1 ?rGROUPS ?y2 ?rBIG ?y3 ?rLONGEST ?aCBT ?iCBT ?aCVE ?iCVE ?aCBI ?iCBI ?aCBL ?iCBL ?aCBN ?iCBN ?lXBT ?vXBT ?nXBT ?lIBT ?cIBT ?kIBT ?bXBT ?x1 ?x2 ?x3
    (case aWh => k_is); (case lWh => k_is); (case cWh => k_is); (case kWh => k_is); (case aWi => k_is); (case lWi => k_is); (case cWi => k_is); (case kWi => k_is); (case aTo1 => k_is); (case lTo1 => k_is); (case cTo1 => k_is); (case kTo1 => k_is); (case aPe => k_is); (case lPe => k_is); (case cPe => k_is); (case kPe => k_is); (case aGe => k_is); (case lGe => k_is); (case cGe => k_is); (case kGe => k_is); (case aPl => k_is); (case lPl => k_is); (case cPl => k_is); (case kPl => k_is); (case aPn => k_is); (case lPn => k_is); (case cPn => k_is); (case kPn => k_is); (case aPs => k_is); (case lPs => k_is); (case cPs => k_is); (case kPs => k_is); (case aPi => k_is); (case lPi => k_is); (case cPi => k_is); (case kPi => k_is); (case aPp => k_is); (case lPp => k_is); (case cPp => k_is); (case kPp => k_is); (case aPg => k_is); (case lPg => k_is); (case cPg => k_is); (case kPg => k_is); (case aSt => k_is); (case lSt => k_is); (case cSt => k_is); (case kSt => k_is); (case aDr => k_is); (case lDr => k_is); (case cDr => k_is); (case kDr => k_is); (case aOn => k_is); (case lOn => k_is); (case cOn => k_is); (case kOn => k_is); (case aSm => k_is); (case lSm => k_is); (case cSm => k_is); (case kSm => k_is); (case aMx => k_is); (case lMx => k_is); (case cMx => k_is); (case kMx => k_is); (case aAm => k_is); (case lAm => k_is); (case cAm => k_is); (case kAm => k_is); (case aIn => k_is); (case lIn => k_is); (case cIn => k_is); (case kIn => k_is); (case aOd => k_is); (case lOd => k_is); (case cOd => k_is); (case kOd => k_is); (case aLt => k_is); (case lLt => k_is); (case cLt => k_is); (case kLt => k_is); (case aNu => k_is); (case lNu => k_is); (case cNu => k_is); (case kNu => k_is); (case aCh => k_is); (case lCh => k_is); (case cCh => k_is); (case kCh => k_is); (case aGp => k_is); (case lGp => k_is); (case cGp => k_is); (case kGp => k_is); (case aDu => k_is); (case lDu => k_is); (case cDu => k_is); (case kDu => k_is); (case aTo => k_is); (case lTo => k_is); (case cTo => k_is); (case kTo => k_is); (case aLaw => k_is); (case lLaw => k_is); (case cLaw => k_is); (case kLaw => k_is); (case z0 => k_is); (case z1 => k_is); (case z2 => k_is); (case z3 => k_is); (case z4 => k_is); (case z5 => k_is); (case z6 => k_is); (case z7 => k_is); (case z8 => k_is); (case z9 => k_is); (case z10 => k_is); (case z11 => k_is); (case z12 => k_is); (case z13 => k_is); (case z14 => k_is); (case aCBT => k_is); (case iCBT => kernel_rfl); (case aCVE => k_is); (case iCVE => kernel_rfl); (case aCBI => k_is); (case iCBI => kernel_rfl); (case aCBL => k_is); (case iCBL => kernel_rfl); (case aCBN => k_is); (case iCBN => kernel_rfl); (case y0 => k_is); (case y1 => k_is); (case y2 => k_is); (case y3 => k_is); (case lXBT => k_is); (case vXBT => kernel_rfl); (case nXBT => k_is); (case lIBT => k_is); (case cIBT => k_is); (case kIBT => k_is); (case bXBT => kernel_rfl); (case x1 => kernel_rfl); (case x2 => kernel_rfl); (case x3 => kernel_rfl); (case rPOSTS => exact ⟨_, rfl⟩); (case rGROUPS => exact ⟨_, rfl⟩); (case rBIG => exact ⟨_, rfl⟩); (case rLONGEST => exact ⟨_, rfl⟩)
