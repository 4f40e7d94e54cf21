import PyProof.Rows.All
import Wide.All
import OpenK.AllK
import Wide.FinOn
import HandS.ForMost
import HandS.Conv
import HandS.Zip
import HandS.Walk
import HandS.IsInst
import HandS.Wide
import HandS.EndBits
import HandS.TupAny
import HandS.TupMul
import HandS.Style
import HandS.Deep
import HandS.NoneIn
import HandS.TupLe
import HandS.Dict
import KE.GoesMore
import KE.GoesZip
import HandS.Codes
import HandS.Exc
import HandS.ExcOwn
import HandS.WordsExc
import HandS.ExcField
import HandS.ExcInit
import KE.KExcIs
import PyProof.ExcBaseAll.LookupError
import PyProof.InstStoreFacts
import KE.KExcLine
import HandS.Star
import PyProof.EnumIter
import PyProof.ListNew
import HandS.Flt
import HandS.TryOnly
import PySem.Challenge.RW_postvote_k29_vectors_and_assignments
set_option Elab.async false
set_option linter.all false
set_option maxRecDepth 100000
namespace Pv
open PySem PySem.Spec PyProof.Rows L2

/-! heaps -/
theorem upNew {H : Hp} {p b : Addr} {o z : HO} (np : H p = none) (h : H b = some z) : upd H p o b = some z := by
  rw [upd_ne (ne_of_none h np)]; exact h
theorem sameNew {H : Hp} {p : Addr} {o : HO} (np : H p = none) : Same H (upd H p o) := fun _ _ e => upNew np e

/-! a def that is called where no repr is under way -/
structure FnG (P : Program) (w : World) (K : PySem.W.Frag) (mg : Str → Option Value) (base : Heap) (k : Nat) (f : Addr) (fd : FuncData) (ps : List Str) (sp : Sp) : Prop where
  cnt : ∀ vs H Q E, sp vs H Q E → vs.length = ps.length
  go : ∀ (A : Around) (outer : List Env) (s : Shared) (H : Hp) (args : Args) (us : List Value) (vs : List V) (Q : VK) (E : XK),
    A.guards = some [] → Room k A → Env0 P w K mg base A outer s H → BindsTo s fd args (ps.zip us) → Vals vs us →
    sp vs H Q E → codeAny (model P w) A (.call (.ref f) args) (CR CX0 outer P w H s Q E) s
section
variable {P : Program} {w : World} {K : PySem.W.Frag} {mg : Str → Option Value} {base : Heap}
theorem okG {x qual : Str} {st : Stmt} {f : Addr} {fd : FuncData} {N ps : List Str} {k : Nat} {sp : Sp}
    (F : Fun K x qual st f fd) (S : FnScope N ps (defScope st)) (cnt : ∀ vs H Q E, sp vs H Q E → vs.length = ps.length)
    (hbody : ∀ (cdv : Value) (A : Around) (outer : List Env) (s : Shared) (H : Hp) (vs : List V) (Q : VK) (E : XK),
      A.guards = some [] → Room k (A.deeper (envOfC qual (defScope st) s.heap.objs.size f cdv)) → sp vs H Q E →
      ∃ t, PSs (cxOf CX0 P w K mg base N qual (defScope st) f cdv A outer s H E).nox (defBody st) t ∧
        t { nx := fun _ H' => Q .non H', rt := Q } (start N vs) H) : FnG P w K mg base (k + 1) f fd ps sp := by
  obtain ⟨oc, od, kV, doc, pm, an, cdv, ct, osl, rfl, lk, hcd⟩ := F.ex
  refine ⟨cnt, ?_⟩
  intro A outer s H args us vs Q E hgd hr e0 hb r hsp
  have hl := cnt vs H Q E hsp
  have kk : ∀ b o, base.get? b = some o → s.heap.get? b = some o := fun b o e => (e0.bs b o e).1
  have KX : K.In s.heap := e0.mod.kin.keeps kk
  have lim : s.heap.NoLimit := e0.mod.nolimit.keeps kk
  refine codeAny_call_function hr.depth (KX _ _ lk) rfl S.co S.gen rfl (PySem.W.codeRec_of KX hcd)
    (hb _ _ _ _ (wpAny_newFunctionEnv_cells S.kind ?_ ?_))
  · rintro ⟨n, v⟩ hy
    rcases S.par n (List.of_mem_zip hy).1 with q | q
    · left; exact q
    · right; exact ⟨q, PySem.W.cellsFrom_some _ _ _ (Or.inl q)⟩
  · intro env he s1 x
    cases he
    refine ⟨lim.keeps x.toInCall.keep, ?_⟩
    apply codeAny_func
    obtain ⟨t, ht0, hq⟩ := hbody cdv A outer s H vs Q E hgd (hr.deeper _) hsp
    have ht := ht0.nox
    have I := inv_start (CX := CX0) (f := f) (qual := qual) (E := E) S hr.hd e0 hl r x
    refine wpAny_mono (ht.run [] s1 (start N vs) H _ I hq) ?_ (fun _ _ z => z)
    intro fl s' hs
    cases fl with
    | ret u => obtain ⟨v, σ', H', J, rv, q⟩ := hs; exact ⟨v, H', J.os, J.bare, J.base, J.hok, rv, q⟩
    | next => obtain ⟨σ', H', J, q⟩ := hs; exact ⟨V.non, H', J.os, J.bare, J.base, J.hok, rfl, q⟩
    | brk => obtain ⟨_, _, _, q⟩ := hs; exact q.elim
    | cont => obtain ⟨_, _, _, q⟩ := hs; exact q.elim
end
section
variable {X : Cx} {k : Nat} {f : Addr} {fd : FuncData} {ps : List Str} {sp : Sp} {x : Str} {p pos : Pos} {e : Expr} {es : List Expr} {t : TA}
theorem pe_callG (F : FnG X.prog X.w X.K X.mg X.base k f fd ps sp) (hgd : X.A.guards = some []) (hr : Room k X.A) (hg : Gl X x)
    (hm : X.mg x = some (.ref f)) (hk : PySem.W.keepIn X.K (.ref f) = true) (hb : Binds X.K fd ps []) (ha : PA X (e :: es) t)
    (hdb : (x == ("__debug__" : Str)) = false := by decide) (he : starEach (e :: es) X.env = (false, eval e X.env) :: starEach es X.env := by rfl)
    (hpl : (backTo pos (starEach es X.env)).any (·.1) = false := by rfl) :
    PE X (.Call (.Name x p) (e :: es) [] pos) (tCall sp [] E0 t) := by
  constructor
  intro pins s σ H Q I h
  refine wpAny_Call_Name_kw (ld_glob I hg hm ?_ hdb)
  refine PySem.W.callWith_K (h₀ := X.base) I.ok.mod.kin hk (thn (ha.run pos pins s σ H _ I h) ?_) he hpl
  rintro us s1 ⟨vs, H1, I1, r, q⟩
  refine ⟨I1.kIn, ?_⟩
  have r2 : Vals (vs ++ []) (us ++ []) := r.append .nil
  have hl : (us ++ []).length = ps.length := by rw [← r2.length]; exact F.cnt _ _ _ _ q
  refine wpAny_call (codeAny_mono (F.go X.A X.stack s1 H1 ⟨us, []⟩ (us ++ []) (vs ++ []) Q E0 hgd hr I1.env0 (hb s1 us I1.kIn hl) r2 q) ?_)
  intro rr s' hq
  match rr, hq with
  | .error e, hq => exact hq.elim
  | .ok (.ret u), hq => exact I1.after hq
  | .ok .next, hq => exact hq.elim
  | .ok .brk, hq => exact hq.elim
  | .ok .cont, hq => exact hq.elim
end
theorem lawG {P : Program} {w : World} {K : PySem.W.Frag} {mg mb : Str → Option Value} {k : Nat} {fa a : Addr} {fd : FuncData} {x : Str} {sp : Sp}
    {s₁ : Shared} {vs : List Value} {ns : List Int} (KX : K.In s₁.heap) (hns : s₁.heap.Ns mainGlobals mg) (hb : s₁.heap.Ns builtinsNs mb)
    (hbb : ∀ x : Str, x ≠ "__name__" → mb x = bootBuiltins x) (hlim : s₁.heap.NoLimit) (hg : s₁.gens = #[])
    (ha : s₁.heap.get? a = some { cls := .type "list", data := .seq vs.toArray }) (hi : IntsAre vs ns) (hl : ns.length ≤ sizeLine)
    (hr : Room k callerA) (F : ∀ base : Heap, K.In base → base.Ns mainGlobals mg → FnG P w K mg base k fa fd [x] sp)
    (hbind : ∀ (s : Shared) (u : Value), BindsTo s fd ⟨[u], []⟩ [(x, u)])
    (hsp : ∀ H : Hp, Only H → SqL K H a (ns.map V.int) → sp [.ref a] H (fun v _ => v = .bl true) E0) :
    codeAny (model P w) callerA (.call (.ref fa) ⟨[.ref a], []⟩)
      (fun r s' => r = .ok (.ret (.bool true)) ∧ OldK s₁.heap s'.heap ∧ s'.os = s₁.os ∧ AllBare s'.gens) s₁ := by
  have rv := vals_ints hi
  have lenV := hi.length
  have core : ∀ H : Hp, Only H → SqL K H a (ns.map V.int) → HOk P w H s₁.heap → (∀ b, H b ≠ none → b = a) → (H a ≠ none → K.lookup a = none) →
      codeAny (model P w) callerA (.call (.ref fa) ⟨[.ref a], []⟩)
        (fun r s' => r = .ok (.ret (.bool true)) ∧ OldK s₁.heap s'.heap ∧ s'.os = s₁.os ∧ AllBare s'.gens) s₁ := by
    intro H hO hS hok hA hK
    have noD : ∀ {b : Addr} {o : Obj} {es : Array DictEntry} {ep : Nat}, s₁.heap.get? b = some o → o.data = .dict es ep → H b = none := by
      intro b o es ep e d
      match q : H b with
      | none => rfl
      | some u =>
        obtain rfl : b = a := hA b (by rw [q]; simp)
        rw [ha] at e
        cases e
        exact absurd d (by intro z; cases z)
    have nsK : ∀ {b : Addr} {m : Str → Option Value}, s₁.heap.Ns b m → (hidT s₁.heap H).Ns b m := by
      rintro b m ⟨o, es, ep, e, d, r⟩
      exact ⟨o, es, ep, hidT_get e (noD e d), d, r⟩
    have hKb : K.In (hidT s₁.heap H) := by
      intro b o e
      refine hidT_get (KX b o e) ?_
      match q : H b with
      | none => rfl
      | some u =>
        obtain rfl : b = a := hA b (by rw [q]; simp)
        rw [hK (by rw [q]; simp)] at e
        cases e
    have hM : Mod K mg (hidT s₁.heap H) := by
      obtain ⟨mc, h1, h2⟩ := hlim
      exact ⟨hKb, nsK hns, ⟨mb, nsK hb, hbb⟩, ⟨mc, nsK h1, h2⟩⟩
    have e0 : Env0 P w K mg (hidT s₁.heap H) callerA [] s₁ H :=
      ⟨rfl, hM, fun b o e => of_hidT e, Nat.le_of_eq (hidT_size _ _), trivial, (fun b hb => by cases hb), hok, .of_eq hg⟩
    refine codeAny_mono ((F _ hKb (nsK hns)).go callerA [] s₁ H ⟨[.ref a], []⟩ [.ref a] [.ref a] _ _ rfl hr e0 (hbind s₁ (.ref a)) (.cons rfl .nil) (hsp H hO hS)) ?_
    intro r s' h
    match r, h with
    | .error e, h => exact h.elim
    | .ok .next, h => exact h.elim
    | .ok .brk, h => exact h.elim
    | .ok .cont, h => exact h.elim
    | .ok (.ret u), h =>
      obtain ⟨v, H', os, bare, un, hok', r', q⟩ := h
      cases (show v = V.bl true from q)
      cases (show u = Value.bool true from r')
      refine ⟨rfl, OldK.of_keep ?_, os, bare⟩
      intro b o e
      match q : H b with
      | none => exact un.keep b o e q (by intro z; cases z) (by intro z; cases z)
      | some u =>
        rcases hO b with z | ⟨ob, xs, z⟩
        · rw [q] at z; cases z
        · obtain ⟨e1, _⟩ := hok b _ z
          obtain ⟨e2, _⟩ := hok' b _ (un.frzs b ob _ z)
          rw [e] at e1
          cases e1
          exact e2
  match hk : K.lookup a with
  | some o =>
    have e := KX a o hk
    rw [ha] at e
    cases e
    refine core (fun _ => none) (fun _ => .inl rfl) (.inr ⟨_, vs.toArray, _, hk, rfl, rfl, rfl, ?_, by simpa using rv⟩) (fun b u z => by cases z) (fun b z => absurd rfl z) (fun z => absurd rfl z)
    rw [List.size_toArray, lenV]; exact hl
  | none =>
    let HA : Hp := fun b => if b = a then some (.frz { cls := .type "list", data := .seq vs.toArray } (.lst (ns.map V.int))) else none
    have at_a : HA a = some (.frz { cls := .type "list", data := .seq vs.toArray } (.lst (ns.map V.int))) := if_pos rfl
    have at_ne : ∀ b, b ≠ a → HA b = none := fun b h => if_neg h
    refine core HA ?_ (.inl (.inr ⟨_, at_a⟩)) ?_ ?_ (fun _ => hk)
    · intro b
      by_cases hb : b = a
      · subst hb; exact .inr ⟨_, _, at_a⟩
      · exact .inl (at_ne b hb)
    · intro b u z
      by_cases hb : b = a
      · subst hb
        rw [at_a] at z
        cases z
        exact ⟨ha, by rw [List.length_map]; exact hl, vs, _, rv, ha⟩
      · rw [at_ne b hb] at z; cases z
    · intro b z
      by_cases hb : b = a
      · exact hb
      · exact absurd (at_ne b hb) z
theorem walkG {l : PySem.W.OpenLaw} {n k : Nat} {q : Program} {loose : List Str} {XP : (Str → Option Value) → Heap → Prop} {YP : World → Heap → Prop}
    {d : DefRec} {K : Params → PySem.W.Frag} {sp : World → Sp} {x : Str} (hn : l.most = some n) (hn2 : n ≤ sizeLine) (hdf : d.params.defaults = [])
    (hr : Room k callerA) (hY : ∀ (w : World) (h : Heap), YP w h → (K w.params).In h)
    (F : ∀ (w : World) (mg : Str → Option Value) (fa : Addr) (h : Heap), (K w.params).In h → h.Ns mainGlobals mg → mg d.name = some (.ref fa) →
      ∃ fd : FuncData, (∀ (s : Shared) (u : Value), BindsTo s fd ⟨[u], []⟩ [(x, u)]) ∧
        ∀ base : Heap, (K w.params).In base → base.Ns mainGlobals mg → FnG l.prog w (K w.params) mg base k fa fd [x] (sp w))
    (hsp : ∀ (w : World) (H : Hp) (a : Addr) (ns : List Int), ns.length ≤ n → (∀ z ∈ ns, Builtin.Int.intBits z ≤ 1048576) → Only H →
      SqL (K w.params) H a (ns.map V.int) → sp w [.ref a] H (fun v _ => v = .bl true) E0) :
    PySem.W.WalkO q loose XP YP l.row.toRowW d [] (fun f vs => PySem.call f vs) := by
  refine Att.attach_callB hn hdf ?_
  intro w s₀ s₁ mg mb fa o pm cd doc a vs ns G Y ho hd hcd hmg hobj hints hlen hbits hg
  have KX := hY w _ Y
  obtain ⟨fd, hb, hF⟩ := F w mg fa _ KX G.T.g hmg
  exact lawG KX G.T.g G.T.b G.T.builtins G.T.nolimit hg hobj hints (Nat.le_trans hlen hn2) hr hF hb (fun H hO hS => hsp w H a ns hlen hbits hO hS)

/-! repr of data -/
theorem call_reprD {X : Cx} (hg : X.A.guards = some []) (hu : X.A.units + 70 < cLine) : CallR X (.builtin "repr")
    (fun xs H Q => ∃ a d, xs = [.ref a] ∧ Dp X.K H (.ref a) d ∧ d.showable = true ∧ d.hasDict = false ∧ d.depth ≤ 60 ∧
      d.shown.length ≤ sizeLine ∧ Q (.str d.shown) H) := by
  intro pins s σ H xs us Q I r h
  obtain ⟨a, d, rfl, hd, h1, h2, h3, h4, q⟩ := h
  obtain ⟨u, rfl, rfl⟩ := vals1 r
  obtain ⟨as, rd⟩ := Dp.reads I d _ _ hd rfl
  exact repr_of_reads' rd h1 (PyData.noDict_hsm h2) hg (by omega) (fun _ _ e => e) (fun h' u tk hk => ⟨.str _, H, I.kept hk, ⟨_, rfl⟩, q⟩) h4
end Pv

namespace Pv
open PySem PySem.Spec PyProof.Rows L2
theorem tup_mul0 (l : Addr) (items : Array Value) (n : Nat) (dd : Option Addr) (sl : Array (Option Value)) (u : Tok) (hi : items.isEmpty = false) :
    Meets (Builtin.«tuple.__mul__» ⟨[.ref l, .int ((0 : Nat) : Int) u], []⟩) (fun _ R s => s.heap.get? l = some { cls := .type "tuple", dict := dd, data := .seq items n, slots := sl } ∧
      R (.ok (.ret (Value.ref s.heap.objs.size))) { s with heap := s.heap.push { cls := Value.type "tuple", data := Data.seq #[] }, toks := s.toks }) :=
  .of_wp fun prog w A R s h => by
    obtain ⟨hp, g, d, tk, os⟩ := s
    obtain ⟨hl, h⟩ := h
    have f1 := AutoSeq1.idx_int
    wp_walk using AutoSeq1.wpAny_loadPart' hl
    repeat (first
      | (refine wpAny_ite_false (decide_eq_false (by simp [hi])) ?_; wp_walk using AutoSeq1.wpAny_loadPart' hl)
      | (refine wpAny_ite_true (decide_eq_true (by simp [hi])) ?_; wp_walk using AutoSeq1.wpAny_loadPart' hl))
    exact ⟨_, rfl, h⟩
theorem tup_mul1 (l : Addr) (items : Array Value) (n : Nat) (dd : Option Addr) (sl : Array (Option Value)) (u : Tok) :
    Meets (Builtin.«tuple.__mul__» ⟨[.ref l, .int ((1 : Nat) : Int) u], []⟩) (fun _ R s => s.heap.get? l = some { cls := .type "tuple", dict := dd, data := .seq items n, slots := sl } ∧
      R (.ok (.ret (Value.ref l))) s) :=
  .of_wp fun prog w A R s h => by
    obtain ⟨hp, g, d, tk, os⟩ := s
    obtain ⟨hl, h⟩ := h
    have f1 := AutoSeq1.idx_int
    wp_walk using AutoSeq1.wpAny_loadPart' hl
    repeat (first
      | (refine wpAny_ite_false (decide_eq_false (by simp)) ?_; wp_walk using AutoSeq1.wpAny_loadPart' hl)
      | (refine wpAny_ite_true (decide_eq_true (by simp)) ?_; wp_walk using AutoSeq1.wpAny_loadPart' hl))
    exact ⟨_, rfl, h⟩
def rRepA (K : PySem.W.Frag) : R2 := fun x y H Q => ∃ (l : Addr) (k : Nat) (xs : List V), x = .ref l ∧ y = .int k ∧ SqT K H l xs ∧ xs ≠ [] ∧ k ≤ 1000 ∧ xs.length ≤ 1000 ∧
    (k = 1 → Q (.ref l) H) ∧ (k ≠ 1 → ∀ p, H p = none → Q (.ref p) (upd H p (.tup (List.replicate k xs).flatten)))
abbrev RC := List V → Hp → VK → Prop
def rLenQ (K : PySem.W.Frag) : RC := fun xs H Q => ∃ (p : Addr) (ys : List V), xs = [.ref p] ∧ (SqL K H p ys ∨ SqT K H p ys) ∧ Q (.int ys.length) H
def rTupQ (K : PySem.W.Frag) : RC := fun xs H Q => ∃ (p : Addr) (ys : List V), xs = [.ref p] ∧ ((SqL K H p ys ∧ ∀ l, H l = none → Q (.ref l) (upd H l (.tup ys))) ∨ (SqT K H p ys ∧ Q (.ref p) H))
section
variable {X : Cx}
theorem call_lenQ : CallR X (.builtin "len") (rLenQ X.K) := call_len_seq
theorem call_tupQ : CallR X (.type "tuple") (rTupQ X.K) := call_tuple_of
/-- o[i] of a list, for o[i] += e -/
theorem get_list : PGet X (fun o i H Q => ∃ (p : Addr) (xs : List V) (j : Nat) (v : V), o = .ref p ∧ i = .int j ∧ SqL X.K H p xs ∧ xs[j]? = some v ∧ Q v H) := by
  intro pins s σ H o i ov iv Q I ro ri h
  obtain ⟨p, xs, j, v, rfl, rfl, hq, he, q⟩ := h
  cases ro
  obtain ⟨t, rfl⟩ := ri
  obtain ⟨its, r, pl, hz⟩ := I.list hq
  obtain ⟨u, eu, ru⟩ := r.get he
  have hj : j < its.length := (List.getElem?_eq_some_iff.mp eu).1
  have hl := r.length
  have hn := line63
  exact wpAny_getItem_list pl.isList (by omega) (by omega) (by simpa using eu) ⟨v, H, I, ru, q⟩
/-- tuple * int -/
theorem op_repA : OpR X (binaryOp .Mult) (rRepA X.K) := by
  intro pins s σ H x y v u Q I rx ry h
  obtain ⟨l, k, xs, rfl, rfl, hT, hne, h2, hz, q1, q2⟩ := h
  by_cases hk2 : 2 ≤ k
  · exact op_repT pins s σ H _ _ v u Q I rx ry ⟨l, k, xs, rfl, rfl, hT, hne, by omega, by omega, hz, by simpa using q2 (by omega)⟩
  cases rx
  obtain ⟨t, rfl⟩ := ry
  obtain ⟨its, r, ⟨⟨cls, dd, data, sl⟩, ho, hc, n, hd⟩, hs⟩ := I.tuple hT
  simp only at hc hd
  subst hc hd
  have hi : its.toArray.isEmpty = false := by
    cases its with
    | nil => exact absurd (List.eq_nil_of_length_eq_zero (by simpa using r.length)) hne
    | cons a b => rfl
  refine wpAny_binaryOp_repeat_ref (T := "tuple") (U := "int") (by decide) ⟨_, ho, rfl⟩ (fun s' => typeIs_int s' k t) noFill_tuple_mul F.fills_int_mul F.slot_int_rmul repeat_tuple F.slot_int_index.lookup
    (call_meets F.slot_int_rmul (typeIs_int s k t) F.entry_int_rmul (F.args_int_rmul_2 _ _) (int_rmul_tuple k t l its.toArray n dd sl)
      ⟨ho, rfl, ⟨_, ho, rfl⟩, ?_⟩)
  obtain hk | hk : k = 0 ∨ k = 1 := by omega
  · subst hk
    refine call_meets F.slot_tuple_mul (show s.TypeIs (.ref l) "tuple" from ⟨_, ho, rfl⟩) F.entry_tuple_mul (F.args_tuple_mul_2 _ _) (tup_mul0 l its.toArray n dd sl t hi) ⟨ho, ?_⟩
    refine ⟨.ref s.heap.objs.size, _, I.laid (t' := s.toks) (o := .tup []) (fun b ob q => Heap.get?_push_of_some _ q) (Nat.le_refl _) ?_, rfl, q2 (by decide) _ (I.hok.fresh (Nat.le_refl _))⟩
    exact ⟨Nat.zero_le _, [], .nil, IsTup.new _ _⟩
  · subst hk
    exact call_meets F.slot_tuple_mul (show s.TypeIs (.ref l) "tuple" from ⟨_, ho, rfl⟩) F.entry_tuple_mul (F.args_tuple_mul_2 _ _) (tup_mul1 l its.toArray n dd sl t) ⟨ho, ⟨.ref l, H, I, rfl, q1 rfl⟩⟩
/-- sum of a tuple of ints -/
theorem call_sumT (hc : X.calm = true) : CallR X (.builtin "sum") (fun xs H Q => ∃ (a : Addr) (ns : List Int), xs = [.ref a] ∧ SqT X.K H a (ns.map V.int) ∧ Q (.int ns.sum) H) := by
  intro pins s σ H xs us Q I r h
  obtain ⟨a, ns, rfl, hT, q⟩ := h
  obtain ⟨u, rfl, rfl⟩ := vals1 r
  obtain ⟨its, rv, ht, hz⟩ := I.tuple hT
  have hi : IntsAre its ns := rv.ints
  obtain ⟨ys, e⟩ := hi.allInts.items
  have hn : numsOf (intItems ys).toList = ns := by rw [← e]; exact hi.numsOf
  rw [nums_intItems] at hn
  rw [e] at ht
  have ht' : s.heap.IsTuple a (intItems ys) := ht
  have hlt : a < s.heap.objs.size := by obtain ⟨_, z, _⟩ := ht; exact Heap.lt_size z
  refine call_sum_walkG (wpAny_pyIter_tuple ht' ?_)
  refine ⟨_, _, _, _, _, _, numAt ys, rfl, Walks.tuple (A := X.A.in1) (I.ok.hd hc) _ a (Nat.ne_of_lt hlt) (intItems ys), ⟨⟨_, Heap.get?_push_size _ rfl, rfl, rfl⟩, ht'.push _⟩, ?_, (fun _ _ => intItems_at), ?_⟩
  · intro b hb
    show b < (s.heap.push _).objs.size
    rw [Heap.size_push]
    simp only [List.mem_cons, List.not_mem_nil, or_false] at hb
    rcases hb with rfl | rfl
    · exact Nat.lt_succ_self _
    · exact Nat.lt_succ_of_lt hlt
  · intro h' tk t' hk
    have eq : preSum (numAt ys) (intItems ys).size = ns.sum := by
      rw [preSum_eq, List.take_of_length_le (by simp [intItems]), hn]
    rw [eq]
    refine ⟨.int _, H, I.kept (t' := tk) (h' := h') ?_, ⟨_, rfl⟩, q⟩
    intro b o eb
    refine hk b o (fun hm => ?_) (Heap.get?_push_of_some _ eb)
    exact absurd (Heap.lt_size eb) ((List.mem_singleton.mp hm) ▸ Nat.lt_irrefl _)
end
theorem walk_zipT {K : PySem.W.Frag} {a b : Addr} {xs ys : List V} {n : Nat} (hn : n = min xs.length ys.length) :
    Walk (RZ.ItzT K a b) n (fun H => SqT K H a xs ∧ SqT K H b ys) (YPair (fun i => xs[i]?) (fun i => ys[i]?)) := by
  subst hn
  constructor
  · rintro i H hi ⟨q1, q2⟩
    have h1 : i < xs.length := by omega
    have h2 : i < ys.length := by omega
    exact ⟨xs, ys, xs[i], ys[i], q1, q2, by simp [h1], by simp [h2]⟩
  · rintro H ⟨q1, q2⟩
    exact ⟨xs, ys, q1, q2, by omega⟩
  · rintro i H v H' _ ⟨q1, q2⟩ ⟨T, x, z, h1, h2, h3, h4, h5⟩
    exact ⟨T, x, z, h1, h2, h3, h4 xs q1, h5 ys q2⟩
end Pv

namespace Pv
open PySem PySem.Spec PyProof.Rows L2

/-! tuples never change -/
def TupK (H H' : Hp) : Prop := ∀ b xs, (H b = some (.tup xs) → H' b = some (.tup xs)) ∧ ∀ u, H b = some (.frz u (.tup xs)) → H' b = some (.frz u (.tup xs))
theorem TupK.refl (H : Hp) : TupK H H := fun _ _ => ⟨id, fun _ => id⟩
theorem TupK.trans {H H1 H2 : Hp} (a : TupK H H1) (b : TupK H1 H2) : TupK H H2 := fun c xs => ⟨fun h => (b c xs).1 ((a c xs).1 h), fun u h => (b c xs).2 u ((a c xs).2 u h)⟩
theorem TupK.rd {H H' : Hp} (s : TupK H H') {b : Addr} {xs : List V} (h : Rd H b (.tup xs)) : Rd H' b (.tup xs) := by
  rcases h with h | ⟨o, h⟩
  · exact .inl ((s _ _).1 h)
  · exact .inr ⟨o, (s _ _).2 o h⟩
theorem TupK.of {H H' : Hp} (s : Same H H') : TupK H H' := fun _ _ => ⟨fun h => s _ _ h, fun _ h => s _ _ h⟩
theorem TupK.new {H : Hp} {p : Addr} {o : HO} (np : H p = none) : TupK H (upd H p o) := .of (sameNew np)
theorem TupK.put {H : Hp} {p : Addr} {o : HO} {ys : List V} (e : H p = some (.lst ys)) : TupK H (upd H p o) := by
  intro b xs
  refine ⟨fun h => ?_, fun u h => ?_⟩
  · rw [upd_ne (ne_of h e (by intro z; cases z))]; exact h
  · rw [upd_ne (ne_of h e (by intro z; cases z))]; exact h
theorem TupK.sq {K : PySem.W.Frag} {H H' : Hp} {a : Addr} {xs : List V} (s : TupK H H') (h : SqT K H a xs) : SqT K H' a xs := by
  rcases h with h | h
  · exact .inl (s.rd h)
  · exact .inr h

mutual
def tupOnly : PyData → Bool
  | .none | .bool _ | .int _ | .str _ => true
  | .tuple xs => tupOnlyAll xs
  | .list _ | .dict _ => false
def tupOnlyAll : List PyData → Bool
  | [] => true
  | x :: xs => tupOnly x && tupOnlyAll xs
end
mutual
theorem TupK.dp {K : PySem.W.Frag} {H H' : Hp} (s : TupK H H') : ∀ (d : PyData) (v : V), tupOnly d = true → Dp K H v d → Dp K H' v d
  | .none, v, _, h => by cases h; exact .non
  | .bool b, v, _, h => by cases h; exact .bl _
  | .int b, v, _, h => by cases h; exact .int _
  | .str b, v, _, h => by cases h; exact .str _
  | .tuple xs, v, t, h => by
    cases h with
    | tup hs ha => exact .tup (s.sq hs) (TupK.dpAll s xs _ (by simpa [tupOnly] using t) ha)
  | .list _, v, t, _ => by simp [tupOnly] at t
  | .dict _, v, t, _ => by simp [tupOnly] at t
theorem TupK.dpAll {K : PySem.W.Frag} {H H' : Hp} (s : TupK H H') : ∀ (ds : List PyData) (vs : List V), tupOnlyAll ds = true → DpAll K H vs ds → DpAll K H' vs ds
  | [], vs, _, h => by cases h; exact .nil
  | d :: ds, vs, t, h => by
    have t' : tupOnly d = true ∧ tupOnlyAll ds = true := by simpa [tupOnlyAll] using t
    cases h with
    | cons h1 h2 => exact .cons (TupK.dp s d _ t'.1 h1) (TupK.dpAll s ds _ t'.2 h2)
end
theorem tupOnlyAll_of {ds : List PyData} (h : ∀ d ∈ ds, tupOnly d = true) : tupOnlyAll ds = true := by
  induction ds with
  | nil => simp [tupOnlyAll]
  | cons d ds ih => simp [tupOnlyAll, h d (by simp), ih (fun e he => h e (by simp [he]))]

/-! data -/
abbrev Gp := List Int × Int
def dI (ns : List Int) : PyData := .tuple (ns.map .int)
def dGrp (g : Gp) : PyData := .tuple [dI g.1, .int g.2]
def dInst (cs : List Int) (gs : List Gp) : PyData := .tuple [dI cs, .tuple (gs.map dGrp)]
def dAsg (rows : List (List Int)) : PyData := .tuple (rows.map dI)
theorem to_ints (ns : List Int) : tupOnlyAll (ns.map PyData.int) = true := tupOnlyAll_of (by intro d hd; obtain ⟨n, _, rfl⟩ := List.mem_map.mp hd; simp [tupOnly])
theorem to_dI (ns : List Int) : tupOnly (dI ns) = true := by simp [dI, tupOnly, to_ints]
theorem to_dGrp (g : Gp) : tupOnly (dGrp g) = true := by simp [dGrp, tupOnly, tupOnlyAll, to_dI]
theorem to_grps (gs : List Gp) : tupOnlyAll (gs.map dGrp) = true := tupOnlyAll_of (by intro d hd; obtain ⟨n, _, rfl⟩ := List.mem_map.mp hd; exact to_dGrp n)
theorem to_rows (rs : List (List Int)) : tupOnlyAll (rs.map dI) = true := tupOnlyAll_of (by intro d hd; obtain ⟨n, _, rfl⟩ := List.mem_map.mp hd; exact to_dI n)
theorem to_dInst (cs : List Int) (gs : List Gp) : tupOnly (dInst cs gs) = true := by simp [dInst, tupOnly, tupOnlyAll, to_dI, to_grps]
theorem to_dAsg (rs : List (List Int)) : tupOnly (dAsg rs) = true := by simp [dAsg, tupOnly, to_rows]

section
variable {K : PySem.W.Frag} {H : Hp}
theorem DpAll.len : ∀ {vs : List V} {ds : List PyData}, DpAll K H vs ds → vs.length = ds.length
  | _, _, .nil => rfl
  | _, _, .cons _ t => by simp [DpAll.len t]
theorem DpAll.ints : ∀ {ns : List Int} {vs : List V}, DpAll K H vs (ns.map PyData.int) → vs = ns.map V.int
  | [], _, h => by cases h; rfl
  | n :: ns, _, h => by
    cases h with
    | cons h1 h2 => cases h1; rw [DpAll.ints h2]; rfl
theorem dp_ints : ∀ (ns : List Int), DpAll K H (ns.map V.int) (ns.map PyData.int)
  | [] => .nil
  | n :: ns => .cons (.int n) (dp_ints ns)
theorem DpAll.at : ∀ {vs : List V} {ds : List PyData} {i : Nat} {v : V}, DpAll K H vs ds → vs[i]? = some v → ∃ d, ds[i]? = some d ∧ Dp K H v d
  | _, _, _, _, .nil, e => by simp at e
  | _, _, 0, _, .cons h _, e => by simp at e; subst e; exact ⟨_, rfl, h⟩
  | _, _, i + 1, v, .cons _ t, e => by
    obtain ⟨d, h1, h2⟩ := DpAll.at (i := i) t (by simpa using e)
    exact ⟨d, by simpa using h1, h2⟩
theorem DpAll.snoc : ∀ {vs : List V} {ds : List PyData} {v : V} {d : PyData}, DpAll K H vs ds → Dp K H v d → DpAll K H (vs ++ [v]) (ds ++ [d])
  | _, _, _, _, .nil, h => .cons h .nil
  | _, _, _, _, .cons h t, h' => .cons h (DpAll.snoc t h')
theorem sq_dI {a : Addr} {ns : List Int} (h : Dp K H (.ref a) (dI ns)) : SqT K H a (ns.map V.int) := by
  cases h with
  | tup hs ha => rw [DpAll.ints ha] at hs; exact hs
theorem dI_sq {a : Addr} {ns : List Int} (h : SqT K H a (ns.map V.int)) : Dp K H (.ref a) (dI ns) := .tup h (dp_ints ns)
theorem dI_ref {v : V} {ns : List Int} (h : Dp K H v (dI ns)) : ∃ a, v = .ref a ∧ SqT K H a (ns.map V.int) := by
  cases h with
  | tup hs ha => rw [DpAll.ints ha] at hs; exact ⟨_, rfl, hs⟩
theorem grp_ref {v : V} {g : Gp} (h : Dp K H v (dGrp g)) : ∃ a p, v = .ref a ∧ SqT K H a [.ref p, .int g.2] ∧ SqT K H p (g.1.map V.int) := by
  cases h with
  | tup hs ha =>
    cases ha with
    | cons h1 h2 =>
      cases h2 with
      | cons h3 h4 =>
        cases h4
        cases h3
        obtain ⟨p, rfl, hp⟩ := dI_ref h1
        exact ⟨_, p, rfl, hs, hp⟩
theorem inst_open {v : V} {cs : List Int} {gs : List Gp} (h : Dp K H v (dInst cs gs)) :
    ∃ a c g xs, v = .ref a ∧ SqT K H a [.ref c, .ref g] ∧ SqT K H c (cs.map V.int) ∧ SqT K H g xs ∧ DpAll K H xs (gs.map dGrp) := by
  cases h with
  | tup hs ha =>
    cases ha with
    | cons h1 h2 =>
      cases h2 with
      | cons h3 h4 =>
        cases h4
        obtain ⟨c, rfl, hc⟩ := dI_ref h1
        cases h3 with
        | tup hg hx => exact ⟨_, c, _, _, rfl, hs, hc, hg, hx⟩
theorem asg_open {v : V} {rs : List (List Int)} (h : Dp K H v (dAsg rs)) : ∃ a xs, v = .ref a ∧ SqT K H a xs ∧ DpAll K H xs (rs.map dI) := by
  cases h with
  | tup hg hx => exact ⟨_, _, rfl, hg, hx⟩
end

/-! what repr wants of data -/
structure Fine (k B : Nat) (d : PyData) : Prop where
  sh : d.showable = true
  nd : d.hasDict = false
  dp : d.depth ≤ k
  ln : d.shown.length ≤ B
theorem Fine.mono {k k' B B' : Nat} {d : PyData} (h : Fine k B d) (hk : k ≤ k') (hB : B ≤ B') : Fine k' B' d := ⟨h.sh, h.nd, Nat.le_trans h.dp hk, Nat.le_trans h.ln hB⟩
theorem fine_int {i : Int} (h : i.natAbs < 10 ^ 20) : Fine 0 25 (.int i) := by
  refine ⟨?_, by simp [PyData.hasDict], by simp [PyData.depth], ?_⟩
  · simp only [PyData.showable, decide_eq_true_eq]
    have : i.natAbs.log2 < 100 := by
      by_cases h0 : i.natAbs = 0
      · rw [h0]; decide
      · exact (Nat.log2_lt h0).mpr (Nat.lt_trans h (by decide))
    omega
  · have e := int_text_length_le10 (k := 20) (by decide) h
    show (Str.ofString (toString i)).length ≤ 25
    rw [PySem.ofString_length]
    omega
theorem fine_all {k B : Nat} : ∀ {xs : List PyData}, (∀ x ∈ xs, Fine k B x) → PyData.showableAll xs = true ∧ PyData.hasDictAll xs = false ∧ PyData.depthAll xs ≤ k ∧ ((PyData.shownAll xs).map (·.length)).sum ≤ xs.length * B ∧ (PyData.shownAll xs).length = xs.length
  | [], _ => by simp [PyData.showableAll, PyData.hasDictAll, PyData.depthAll, PyData.shownAll]
  | x :: xs, h => by
    obtain ⟨h1, h2, h3, h4, h5⟩ := fine_all (xs := xs) (fun y hy => h y (by simp [hy]))
    have hx := h x (by simp)
    refine ⟨by simp [PyData.showableAll, hx.sh, h1], by simp [PyData.hasDictAll, hx.nd, h2], ?_, ?_, ?_⟩
    · simp only [PyData.depthAll]; have := hx.dp; omega
    · simp only [PyData.shownAll, List.map_cons, List.sum_cons, List.length_cons]; have := hx.ln; rw [Nat.succ_mul]; omega
    · simp [PyData.shownAll, h5]
theorem fine_tup {k B n : Nat} {xs : List PyData} (h : ∀ x ∈ xs, Fine k B x) (hn : xs.length ≤ n) : Fine (k + 1) (n * (B + 2) + 3) (.tuple xs) := by
  obtain ⟨h1, h2, h3, h4, h5⟩ := fine_all h
  refine ⟨by simp only [PyData.showable]; exact h1, by simp only [PyData.hasDict]; exact h2, by simp only [PyData.depth]; omega, ?_⟩
  simp only [PyData.shown]
  have e := tupleText_len_le (PyData.shownAll xs)
  rw [h5] at e
  have m : xs.length * (B + 2) ≤ n * (B + 2) := Nat.mul_le_mul_right _ hn
  rw [Nat.mul_add] at m
  omega
theorem fine_lst {k B n : Nat} {xs : List PyData} (h : ∀ x ∈ xs, Fine k B x) (hn : xs.length ≤ n) : Fine (k + 1) (n * (B + 2) + 3) (.list xs) := by
  obtain ⟨h1, h2, h3, h4, h5⟩ := fine_all h
  refine ⟨by simp only [PyData.showable]; exact h1, by simp only [PyData.hasDict]; exact h2, by simp only [PyData.depth]; omega, ?_⟩
  simp only [PyData.shown]
  have e := listText_len_le (PyData.shownAll xs)
  rw [h5] at e
  have m : xs.length * (B + 2) ≤ n * (B + 2) := Nat.mul_le_mul_right _ hn
  rw [Nat.mul_add] at m
  omega
theorem fine_dI {ns : List Int} {n : Nat} (h : ∀ i ∈ ns, i.natAbs < 10 ^ 20) (hn : ns.length ≤ n) : Fine 1 (n * 27 + 3) (dI ns) := by
  refine fine_tup (B := 25) ?_ (by simpa using hn)
  intro d hd
  obtain ⟨i, hi, rfl⟩ := List.mem_map.mp hd
  exact fine_int (h i hi)

/-! the drawing state of the law: a list of the cells, the rests and the turn -/
structure DS (H : Hp) (st c r : Addr) (t : Nat) : Prop where
  hs : H st = some (.lst [.ref c, .ref r, .int t])
  ex : ∃ cells rests : List Int, H c = some (.lst (cells.map V.int)) ∧ H r = some (.lst (rests.map V.int)) ∧ cells.length = rests.length ∧
    0 < cells.length ∧ cells.length ≤ 100 ∧ ∀ x ∈ rests, 0 ≤ x
  n1 : c ≠ r
  n2 : st ≠ c
  n3 : st ≠ r
def Ext (st r : Addr) (H H' : Hp) : Prop := ∀ b o, H b = some o → b ≠ st → b ≠ r → H' b = some o
section
variable {H H1 H2 : Hp} {st c r p : Addr} {t : Nat} {o : HO}
theorem Ext.trans (a : Ext st r H H1) (b : Ext st r H1 H2) : Ext st r H H2 := fun x o h n1 n2 => b x o (a x o h n1 n2) n1 n2
theorem Ext.of (s : Same H H1) : Ext st r H H1 := fun b o h _ _ => s b o h
theorem Ext.tup (d : DS H st c r t) (e : Ext st r H H1) : TupK H H1 := by
  obtain ⟨cells, rests, hc, hr, _⟩ := d.ex
  intro b xs
  refine ⟨fun h => ?_, fun u h => ?_⟩
  · exact e _ _ h (ne_of h d.hs (by intro z; cases z)) (ne_of h hr (by intro z; cases z))
  · exact e _ _ h (ne_of h d.hs (by intro z; cases z)) (ne_of h hr (by intro z; cases z))
theorem DS.same (d : DS H st c r t) (s : Same H H1) : DS H1 st c r t := by
  obtain ⟨cells, rests, hc, hr, q⟩ := d.ex
  exact ⟨s _ _ d.hs, ⟨cells, rests, s _ _ hc, s _ _ hr, q⟩, d.n1, d.n2, d.n3⟩
theorem DS.new (d : DS H st c r t) (np : H p = none) : DS (upd H p o) st c r t := d.same (sameNew np)
theorem DS.put (d : DS H st c r t) (h1 : p ≠ st) (h2 : p ≠ c) (h3 : p ≠ r) : DS (upd H p o) st c r t := by
  obtain ⟨cells, rests, hc, hr, q⟩ := d.ex
  exact ⟨by rw [upd_ne h1.symm]; exact d.hs, ⟨cells, rests, by rw [upd_ne h2.symm]; exact hc, by rw [upd_ne h3.symm]; exact hr, q⟩, d.n1, d.n2, d.n3⟩
/-- an address that was free while the state stood is none of its own -/
theorem DS.off (d : DS H st c r t) (np : H p = none) : p ≠ st ∧ p ≠ c ∧ p ≠ r := by
  obtain ⟨cells, rests, hc, hr, q⟩ := d.ex
  exact ⟨(ne_of_none d.hs np).symm, (ne_of_none hc np).symm, (ne_of_none hr np).symm⟩
end
end Pv

namespace Pv
open PySem PySem.Spec PyProof.Rows L2

/-! data of any kind: lists stand off the drawing state, dicts have leaves alone -/
def kD : Key → PyData
  | .inl i => .int i
  | .inr x => .str x
mutual
inductive Dq (K : PySem.W.Frag) (st r : Addr) (H : Hp) : V → PyData → Prop
  | non : Dq K st r H .non .none
  | bl (b : Bool) : Dq K st r H (.bl b) (.bool b)
  | int (i : Int) : Dq K st r H (.int i) (.int i)
  | str (x : Str) : Dq K st r H (.str x) (.str x)
  | lst {a : Addr} {xs : List V} {ds : List PyData} : H a = some (.lst xs) → a ≠ st → a ≠ r → a ≠ sysModules → DqAll K st r H xs ds → Dq K st r H (.ref a) (.list ds)
  | tup {a : Addr} {xs : List V} {ds : List PyData} : SqT K H a xs → DqAll K st r H xs ds → Dq K st r H (.ref a) (.tuple ds)
  | dct {a : Addr} {kvs : List (Key × Int)} : H a = some (.dK (kvs.map fun p => (p.1, V.int p.2))) → Dq K st r H (.ref a) (.dict (kvs.map fun p => (kD p.1, .int p.2)))
inductive DqAll (K : PySem.W.Frag) (st r : Addr) (H : Hp) : List V → List PyData → Prop
  | nil : DqAll K st r H [] []
  | cons {v : V} {vs : List V} {d : PyData} {ds : List PyData} : Dq K st r H v d → DqAll K st r H vs ds → DqAll K st r H (v :: vs) (d :: ds)
end
theorem keys_reads {P : Program} {w : World} {h : Heap} : ∀ {kvs : List (Key × Int)} {vs : List (Key × Value)} {es : List DictEntry}, KV (kvs.map fun p => (p.1, V.int p.2)) vs → Pairs (mixKind P w) es vs →
    ReadsAll h (es.map (·.key)) ((kvs.map fun p => (kD p.1, PyData.int p.2)).map (·.1)) [] ∧ ReadsAll h (es.map (·.val)) ((kvs.map fun p => (kD p.1, PyData.int p.2)).map (·.2)) []
  | [], _, _, rk, rp => by
    cases rk
    cases rp
    exact ⟨.nil, .nil⟩
  | p :: kvs, _, _, rk, rp => by
    obtain ⟨pk, pi⟩ := p
    rw [List.map_cons] at rk
    cases rk with
    | @cons _ q _ qs hq tq =>
      obtain ⟨qk, qv⟩ := q
      obtain ⟨h1, h2⟩ := hq
      simp only at h1 h2
      subst h1
      cases rp with
      | @cons e _ es _ he hv tp =>
        obtain ⟨r1, r2⟩ := keys_reads (h := h) tq tp
        simp only at he hv
        obtain ⟨t, ht⟩ := h2
        subst ht
        refine ⟨?_, ?_⟩
        · have k1 : Reads h e.key (kD pk) [] := by
            rcases keyIs_shape (show keyIs pk e.key = true from he) with ⟨i, t, e1, e2⟩ | ⟨x, t, e1, e2⟩
            · rw [e1, e2]; exact .int i t
            · rw [e1, e2]; exact .str x t
          exact ReadsAll.cons k1 r1
        · have k2 : Reads h e.val (.int pi) [] := by rw [hv]; exact .int pi t
          exact ReadsAll.cons k2 r2
section
variable {X : Cx} {pins : List (Addr × Obj)} {σ : L2.St} {H : Hp} {s : Shared} {st r : Addr}
mutual
theorem Dq.reads (I : Inv X pins σ H s) : ∀ (d : PyData) (v : V) (u : Value), Dq X.K st r H v d → RelV v u → ∃ as, Reads s.heap u d as ∧ sysModules ∉ as
  | .none, _, _, h, q => by
    cases h; cases q; exact ⟨[], .none, by simp⟩
  | .bool b, _, _, h, q => by
    cases h; cases q; exact ⟨[], .bool b, by simp⟩
  | .int i, _, _, h, q => by
    cases h; obtain ⟨t, e⟩ := q; subst e; exact ⟨[], .int i t, by simp⟩
  | .str x, _, _, h, q => by
    cases h; obtain ⟨t, e⟩ := q; subst e; exact ⟨[], .str x t, by simp⟩
  | .list ds, _, _, h, q => by
    cases h with
    | lst e _ _ n hd =>
      cases q
      obtain ⟨its, rel, ⟨o, m, ho, hc, _, hm⟩, _⟩ := I.list (SqL.of e)
      obtain ⟨as, h1, h2⟩ := DqAll.reads I ds _ its hd rel
      exact ⟨_, .list ho hc hm h1, by simp only [List.mem_cons, not_or]; exact ⟨fun z => n z.symm, h2⟩⟩
  | .tuple ds, _, _, h, q => by
    cases h with
    | tup e hd =>
      cases q
      obtain ⟨its, rel, ⟨o, ho, hc, m, hm⟩, _⟩ := I.tuple e
      obtain ⟨as, h1, h2⟩ := DqAll.reads I ds _ its hd rel
      exact ⟨_, .tuple ho hc hm h1, h2⟩
  | .dict _, _, _, h, q => by
    cases h with
    | dct e =>
      cases q
      obtain ⟨_, nb, vs, rk, o, es, ep, ho, hx, hm, _, rp, _⟩ := dk_of I.hok e
      obtain ⟨h1, h2⟩ := keys_reads (h := s.heap) rk rp
      exact ⟨_, .dict ho hx.1 hm h1 h2, by simp only [List.nil_append, List.append_nil, List.mem_singleton, List.mem_cons, List.not_mem_nil, or_false]; exact fun z => absurd z.symm (by simpa using nb)⟩
theorem DqAll.reads (I : Inv X pins σ H s) : ∀ (ds : List PyData) (vs : List V) (us : List Value), DqAll X.K st r H vs ds → Vals vs us → ∃ as, ReadsAll s.heap us ds as ∧ sysModules ∉ as
  | [], _, _, h, q => by
    cases h; cases q; exact ⟨[], .nil, by simp⟩
  | d :: ds, _, _, h, q => by
    cases h with
    | cons h1 h2 =>
      cases q with
      | cons q1 q2 =>
        obtain ⟨as, e1, n1⟩ := Dq.reads I d _ _ h1 q1
        obtain ⟨bs, e2, n2⟩ := DqAll.reads I ds _ _ h2 q2
        exact ⟨_, .cons e1 e2, by simp only [List.mem_append, not_or]; exact ⟨n1, n2⟩⟩
end
end
/-- repr of such data -/
theorem call_reprQ {X : Cx} (hg : X.A.guards = some []) (hu : X.A.units + 70 < cLine) : CallR X (.builtin "repr")
    (fun xs H Q => ∃ a d st r, xs = [.ref a] ∧ Dq X.K st r H (.ref a) d ∧ d.showable = true ∧ d.depth ≤ 60 ∧ d.shown.length ≤ sizeLine ∧ Q (.str d.shown) H) := by
  intro pins s σ H xs us Q I rv h
  obtain ⟨a, d, st, r, rfl, hd, h1, h3, h4, q⟩ := h
  obtain ⟨u, rfl, rfl⟩ := vals1 rv
  obtain ⟨as, rd, nm⟩ := Dq.reads I d _ _ hd rfl
  exact repr_of_reads' rd h1 (fun _ => nm) hg (by omega) (fun _ _ e => e) (fun h' u tk hk => ⟨.str _, H, I.kept hk, ⟨_, rfl⟩, q⟩) h4

/-! how it lasts -/
section
variable {K : PySem.W.Frag} {st r c : Addr} {H H' : Hp}
structure Lasts (st r : Addr) (H H' : Hp) : Prop where
  tk : TupK H H'
  ls : ∀ a xs, H a = some (.lst xs) → a ≠ st → a ≠ r → H' a = some (.lst xs)
  dk : ∀ a kvs, H a = some (.dK kvs) → H' a = some (.dK kvs)
theorem Lasts.refl : Lasts st r H H := ⟨.refl _, fun _ _ e _ _ => e, fun _ _ e => e⟩
theorem Lasts.of (s : Same H H') : Lasts st r H H' := ⟨.of s, fun a xs e _ _ => s _ _ e, fun a kvs e => s _ _ e⟩
theorem Lasts.ext {t : Nat} (d : DS H st c r t) (x : Ext st r H H') : Lasts st r H H' := by
  refine ⟨x.tup d, fun a xs e n1 n2 => x _ _ e n1 n2, fun a kvs e => ?_⟩
  obtain ⟨cells, rests, hc, hr, _⟩ := d.ex
  exact x _ _ e (ne_of e d.hs (by intro z; cases z)) (ne_of e hr (by intro z; cases z))
theorem Lasts.trans {H2 : Hp} (a : Lasts st r H H') (b : Lasts st r H' H2) : Lasts st r H H2 :=
  ⟨a.tk.trans b.tk, fun p xs e n1 n2 => b.ls _ _ (a.ls _ _ e n1 n2) n1 n2, fun p kvs e => b.dk _ _ (a.dk _ _ e)⟩
theorem Lasts.new {p : Addr} {o : HO} (np : H p = none) : Lasts st r H (upd H p o) := .of (sameNew np)
mutual
theorem Dq.lasts (l : Lasts st r H H') : ∀ {d : PyData} {v : V}, Dq K st r H v d → Dq K st r H' v d
  | .none, _, h => by cases h; exact .non
  | .bool _, _, h => by cases h; exact .bl _
  | .int _, _, h => by cases h; exact .int _
  | .str _, _, h => by cases h; exact .str _
  | .list _, _, h => by
    cases h with
    | lst e n1 n2 n3 hd => exact .lst (l.ls _ _ e n1 n2) n1 n2 n3 (DqAll.lasts l hd)
  | .tuple _, _, h => by
    cases h with
    | tup e hd => exact .tup (l.tk.sq e) (DqAll.lasts l hd)
  | .dict _, _, h => by
    cases h with
    | dct e => exact .dct (l.dk _ _ e)
theorem DqAll.lasts (l : Lasts st r H H') : ∀ {ds : List PyData} {vs : List V}, DqAll K st r H vs ds → DqAll K st r H' vs ds
  | [], _, h => by cases h; exact .nil
  | _ :: _, _, h => by
    cases h with
    | cons h1 h2 => exact .cons (Dq.lasts l h1) (DqAll.lasts l h2)
end
mutual
theorem Dq.of_dp : ∀ {d : PyData} {v : V}, tupOnly d = true → Dp K H v d → Dq K st r H v d
  | .none, _, _, h => by cases h; exact .non
  | .bool _, _, _, h => by cases h; exact .bl _
  | .int _, _, _, h => by cases h; exact .int _
  | .str _, _, _, h => by cases h; exact .str _
  | .list _, _, t, _ => by simp [tupOnly] at t
  | .tuple _, _, t, h => by
    cases h with
    | tup e hd => exact .tup e (DqAll.of_dp (by simpa [tupOnly] using t) hd)
  | .dict _, _, t, _ => by simp [tupOnly] at t
theorem DqAll.of_dp : ∀ {ds : List PyData} {vs : List V}, tupOnlyAll ds = true → DpAll K H vs ds → DqAll K st r H vs ds
  | [], _, _, h => by cases h; exact .nil
  | d :: ds, _, t, h => by
    have t' : tupOnly d = true ∧ tupOnlyAll ds = true := by simpa [tupOnlyAll] using t
    cases h with
    | cons h1 h2 => exact .cons (Dq.of_dp t'.1 h1) (DqAll.of_dp t'.2 h2)
theorem Dq.to_dp : ∀ {d : PyData} {v : V}, tupOnly d = true → Dq K st r H v d → Dp K H v d
  | .none, _, _, h => by cases h; exact .non
  | .bool _, _, _, h => by cases h; exact .bl _
  | .int _, _, _, h => by cases h; exact .int _
  | .str _, _, _, h => by cases h; exact .str _
  | .list _, _, t, _ => by simp [tupOnly] at t
  | .tuple _, _, t, h => by
    cases h with
    | tup e hd => exact .tup e (DqAll.to_dp (by simpa [tupOnly] using t) hd)
  | .dict _, _, t, _ => by simp [tupOnly] at t
theorem DqAll.to_dp : ∀ {ds : List PyData} {vs : List V}, tupOnlyAll ds = true → DqAll K st r H vs ds → DpAll K H vs ds
  | [], _, _, h => by cases h; exact .nil
  | d :: ds, _, t, h => by
    have t' : tupOnly d = true ∧ tupOnlyAll ds = true := by simpa [tupOnlyAll] using t
    cases h with
    | cons h1 h2 => exact .cons (Dq.to_dp t'.1 h1) (DqAll.to_dp t'.2 h2)
end
theorem DqAll.len : ∀ {vs : List V} {ds : List PyData}, DqAll K st r H vs ds → vs.length = ds.length
  | _, _, .nil => rfl
  | _, _, .cons _ t => by simp [DqAll.len t]
theorem DqAll.at : ∀ {vs : List V} {ds : List PyData} {i : Nat} {v : V}, DqAll K st r H vs ds → vs[i]? = some v → ∃ d, ds[i]? = some d ∧ Dq K st r H v d
  | _, _, _, _, .nil, e => by simp at e
  | _, _, 0, _, .cons h _, e => by simp at e; subst e; exact ⟨_, rfl, h⟩
  | _, _, i + 1, v, .cons _ t, e => by
    obtain ⟨d, h1, h2⟩ := DqAll.at (i := i) t (by simpa using e)
    exact ⟨d, by simpa using h1, h2⟩
theorem DqAll.app : ∀ {vs ws : List V} {ds es : List PyData}, DqAll K st r H vs ds → DqAll K st r H ws es → DqAll K st r H (vs ++ ws) (ds ++ es)
  | _, _, _, _, .nil, h => h
  | _, _, _, _, .cons h t, h' => .cons h (DqAll.app t h')
theorem DqAll.snoc {vs : List V} {ds : List PyData} {v : V} {d : PyData} (h : DqAll K st r H vs ds) (h' : Dq K st r H v d) : DqAll K st r H (vs ++ [v]) (ds ++ [d]) := h.app (.cons h' .nil)
theorem DqAll.rev : ∀ {vs : List V} {ds : List PyData}, DqAll K st r H vs ds → DqAll K st r H vs.reverse ds.reverse
  | _, _, .nil => .nil
  | _, _, .cons h t => by rw [List.reverse_cons, List.reverse_cons]; exact (DqAll.rev t).snoc h
theorem DqAll.take : ∀ {vs : List V} {ds : List PyData} (n : Nat), DqAll K st r H vs ds → DqAll K st r H (vs.take n) (ds.take n)
  | _, _, 0, _ => .nil
  | _, _, _ + 1, .nil => .nil
  | _, _, n + 1, .cons h t => .cons h (DqAll.take n t)
theorem DqAll.drop : ∀ {vs : List V} {ds : List PyData} (n : Nat), DqAll K st r H vs ds → DqAll K st r H (vs.drop n) (ds.drop n)
  | _, _, 0, h => h
  | _, _, _ + 1, .nil => .nil
  | _, _, n + 1, .cons _ t => DqAll.drop n t
/-- its type -/
def tyN : PyData → String
  | .none => "NoneType"
  | .bool _ => "bool"
  | .int _ => "int"
  | .str _ => "str"
  | .list _ => "list"
  | .tuple _ => "tuple"
  | .dict _ => "dict"
theorem Dq.ty {d : PyData} {v : V} (h : Dq K st r H v d) : TyX K H v (.type (tyN d)) := by
  cases h with
  | non => exact .base .non
  | bl b => exact .base (.bl b)
  | int i => exact .base (.int i)
  | str x => exact .base (.str x)
  | lst e => exact .base (.lst e)
  | tup e _ =>
    rcases e with (e | ⟨o, e⟩) | ⟨o, its, n, e, hc, _⟩
    · exact .base (.tup e)
    · exact .fTuple e
    · exact .kTuple e hc
  | dct e => exact .base (.dK e)
def isTup : PyData → Bool
  | .tuple _ => true
  | _ => false
def isInt : PyData → Bool
  | .int _ => true
  | .bool _ => true
  | _ => false
def isBool : PyData → Bool
  | .bool _ => true
  | _ => false
theorem kit_tup (d : PyData) : PySem.W.kitOne K (.type (tyN d)) (.type "tuple") = some (isTup d) := by
  have key : ∀ a b : String, ∀ x : Bool, kitB a b = some x → PySem.W.kitOne K (.type a) (.type b) = some x := fun _ _ _ h => kit_ty h
  cases d
  · exact key "NoneType" "tuple" false (by decide +kernel)
  · exact key "bool" "tuple" false (by decide +kernel)
  · exact key "int" "tuple" false (by decide +kernel)
  · exact key "str" "tuple" false (by decide +kernel)
  · exact key "list" "tuple" false (by decide +kernel)
  · exact key "tuple" "tuple" true (by decide +kernel)
  · exact key "dict" "tuple" false (by decide +kernel)
theorem kit_int (d : PyData) : PySem.W.kitOne K (.type (tyN d)) (.type "int") = some (isInt d) := by
  have key : ∀ a b : String, ∀ x : Bool, kitB a b = some x → PySem.W.kitOne K (.type a) (.type b) = some x := fun _ _ _ h => kit_ty h
  cases d
  · exact key "NoneType" "int" false (by decide +kernel)
  · exact key "bool" "int" true (by decide +kernel)
  · exact key "int" "int" true (by decide +kernel)
  · exact key "str" "int" false (by decide +kernel)
  · exact key "list" "int" false (by decide +kernel)
  · exact key "tuple" "int" false (by decide +kernel)
  · exact key "dict" "int" false (by decide +kernel)
theorem kit_bool (d : PyData) : PySem.W.kitOne K (.type (tyN d)) (.type "bool") = some (isBool d) := by
  have key : ∀ a b : String, ∀ x : Bool, kitB a b = some x → PySem.W.kitOne K (.type a) (.type b) = some x := fun _ _ _ h => kit_ty h
  cases d
  · exact key "NoneType" "bool" false (by decide +kernel)
  · exact key "bool" "bool" true (by decide +kernel)
  · exact key "int" "bool" false (by decide +kernel)
  · exact key "str" "bool" false (by decide +kernel)
  · exact key "list" "bool" false (by decide +kernel)
  · exact key "tuple" "bool" false (by decide +kernel)
  · exact key "dict" "bool" false (by decide +kernel)
end
/-! a new list, whose address is none of the machine's own -/
def tLstS (t : TA) : TE := fun σ H Q => t σ H fun xs H1 => xs.length ≤ sizeLine ∧ ∀ p, H1 p = none → p ≠ sysModules → Q (.ref p) (upd H1 p (.lst xs))
section
variable {X : Cx} {es : List Expr} {pos : Pos} {t : TA}
theorem pe_lstS (h : PA X es t) : PE X (.List es pos) (tLstS t) := by
  constructor
  intro pins s σ H Q I hq
  refine wpAny_List_spliced (thn (h.run pos pins s σ H _ I hq) ?_)
  rintro us s1 ⟨xs, H1, I1, rel, z, q⟩
  refine ⟨by rw [← rel.length]; exact z, .ref s1.heap.objs.size, _, ?_, rfl, q _ (I1.hok.fresh (Nat.le_refl _)) (Nat.ne_of_gt I1.big)⟩
  exact I1.laid (t' := s1.toks) (fun b u e => Heap.get?_push_of_some _ e) (Nat.le_refl _) ⟨z, us, 0, rel, Heap.get?_push_size _ rfl⟩
def rListS (K : PySem.W.Frag) : RC := fun xs H Q => ∃ (p : Addr) (ys : List V), xs = [.ref p] ∧ SqT K H p ys ∧ ∀ l, H l = none → l ≠ sysModules → Q (.ref l) (upd H l (.lst ys))
theorem call_listS : CallR X (.type "list") (rListS X.K) := by
  intro pins s σ H xs us Q I rel h
  obtain ⟨p, ys, e, hq, q⟩ := h
  subst e
  obtain ⟨u, e, rx⟩ := vals1 rel
  subst e
  cases rx
  obtain ⟨its, r', ⟨o, ho, hc, n, hd⟩, hz⟩ := I.tuple hq
  have hlen := r'.length
  refine call_list_seq p (.inr rfl) ho hc hd (fun h' c' kp e => ?_) (by simp only [List.size_toArray]; omega)
  exact ⟨.ref s.heap.objs.size, _, I.laid (t' := s.toks) (o := .lst ys) kp (Nat.le_refl _) ⟨hz, its, c', r', e⟩, rfl, q _ (I.hok.fresh (Nat.le_refl _)) (Nat.ne_of_gt I.big)⟩
end
end Pv

namespace Pv
open PySem PySem.Spec PyProof.Rows L2
/-! enumerate of a tuple -/
theorem enumT_new (l : Addr) (items : Array Value) (n : Nat) (dct : Option Addr) (sl : Array (Option Value)) :
    Meets (Builtin.«enumerate.__new__» ⟨[.type "enumerate", .ref l], []⟩) (fun _ R s =>
      s.heap.get? l = some { cls := .type "tuple", dict := dct, data := .seq items n, slots := sl } ∧
      R (.ok (.ret (.ref (s.heap.push { cls := .type "tuple_iterator", data := .fields #[.ref l, .int 0 0] }).objs.size)))
        { s with heap := Heap.push (s.heap.push { cls := .type "tuple_iterator", data := .fields #[.ref l, .int 0 0] }) { cls := .type "enumerate", data := .fields #[.none, .bool false, .ref s.heap.objs.size, rawInt 0, .none, .none] } }) :=
  .of_wp fun prog w A R s h => by
    obtain ⟨hp, g, d, tk, os⟩ := s
    obtain ⟨hl, h⟩ := h
    have hsub := sub_enumerate
    have hL : Heap.IsTuple (Shared.heap ⟨hp, g, d, tk, os⟩) l items := ⟨_, hl, rfl, n, rfl⟩
    wp_walk using AutoSeq1.wpAny_loadPart' hl
    refine wpAny_stack_any fun st => wpAny_pure ?_
    split
    · rename_i c _ _ _ _ _
      cases (c == Value.type "enumerate") <;>
        (wp_walk using AutoSeq1.wpAny_loadPart' hl, wpAny_pyIter_tuple hL; exact ⟨_, rfl, h⟩)
    · wp_walk using AutoSeq1.wpAny_loadPart' hl, wpAny_pyIter_tuple hL
      exact ⟨_, rfl, h⟩
theorem call_enumT {prog : Program} {w : World} {A : Around} {E : Value → Shared → Prop} {s : Shared} {l : Addr} {items : Array Value} {Q : Value → Shared → Prop} (hL : s.heap.IsTuple l items)
    (h : ∀ h', IsEnum h' (s.heap.objs.size + 1) s.heap.objs.size 0 .none → h'.IsTupleIter s.heap.objs.size l 0 →
      (∀ b o, s.heap.get? b = some o → h'.get? b = some o) → Q (.ref (s.heap.objs.size + 1)) { s with heap := h' }) :
    wpAny (model prog w) A (call (.type "enumerate") [.ref l]) Q E s := by
  obtain ⟨⟨c, dct, dt, sl⟩, hl, hc, n, hd⟩ := hL
  simp only at hc hd
  subst hc hd
  refine callType_new F.called_enumerate (by decide) (F.typeCall_enumerate_1 _) (F.newCall_enumerate_1 _) (fun obj => F.args_object_init_2 obj _) F.entry_enumerate_new (enumT_new l items n dct sl) ⟨hl, ?_⟩
  have hz : (s.heap.push { cls := .type "tuple_iterator", data := .fields #[.ref l, .int 0 0] }).objs.size = s.heap.objs.size + 1 := Heap.size_push ..
  show _ ∧ _
  rw [hz]
  have ge : IsEnum (Heap.push (s.heap.push { cls := .type "tuple_iterator", data := .fields #[.ref l, .int 0 0] }) { cls := .type "enumerate", data := .fields #[.none, .bool false, .ref s.heap.objs.size, rawInt 0, .none, .none] }) (s.heap.objs.size + 1) s.heap.objs.size 0 .none := by
    rw [← hz]
    exact Heap.get?_push_size _ rfl
  exact ⟨⟨_, ge, rfl⟩, h _ ge ⟨_, Heap.get?_push_of_some _ (Heap.get?_push_size _ rfl), rfl, rfl⟩ fun b o x => Heap.get?_push_of_some _ (Heap.get?_push_of_some _ x)⟩
def IteT (K : PySem.W.Frag) (a : Addr) : It :=
  ⟨fun i H => ∃ (xs : List V) (x : V), SqT K H a xs ∧ xs[i]? = some x,
   fun i H v H' => ∃ T x, v = .ref T ∧ H T = none ∧ H' = upd H T (.tup [.int (i : Nat), x]) ∧ ∀ xs, SqT K H a xs → xs[i]? = some x,
   fun i H => ∃ xs : List V, SqT K H a xs ∧ xs.length = i⟩
theorem tupLt {h : Heap} {a : Addr} {its : Array Value} (p : IsTup h a its) : a < h.objs.size := by obtain ⟨_, e, _⟩ := p; exact Heap.lt_size e
theorem turn_enumT {P : Program} {w : World} {K : PySem.W.Frag} {elts : List Expr} {kk : Nat} {tpos : Pos} (a e it : Addr) :
    Turn P w K (.Tuple elts kk tpos) (IteT K a) [e, it] e (fun i h => (∃ old, IsEnum h e it ((i : Nat) : Int) old) ∧ h.IsTupleIter it a i ∧ e ≠ it) where
  mem := by simp
  obj := by
    rintro i h ⟨⟨old, he⟩, ⟨o, ho, hc, hd⟩, _⟩ b hb
    simp only [List.mem_cons, List.not_mem_nil, or_false] at hb
    rcases hb with rfl | rfl
    · exact ⟨_, he, fun v q => nomatch q⟩
    · exact ⟨o, ho, fun v q => by rw [hd] at q; cases q⟩
  keep := by
    rintro i h h' ⟨⟨old, he⟩, hi, hne⟩ k
    exact ⟨⟨old, k e (by simp) _ he⟩, hi.at fun o q => k it (by simp) o q, hne⟩
  item := by
    intro X hP hw hK hc i pins s σ H E I hf st hg
    subst hP hw hK
    obtain ⟨⟨old, he⟩, hit, hne⟩ := st
    obtain ⟨xs, x, hq, hx⟩ := hg
    obtain ⟨its, rv, p, hz⟩ := I.tuple hq
    obtain ⟨u, hu, ru⟩ := rv.get hx
    have hel : e < s.heap.objs.size := Heap.lt_size he
    have hil : it < s.heap.objs.size := by obtain ⟨_, q, _⟩ := hit; exact Heap.lt_size q
    have nea : e ≠ a := by
      rintro rfl
      obtain ⟨o, ho, hcl, _⟩ := p
      rw [he] at ho
      cases ho
      injection hcl with hcl
      exact absurd hcl (by decide)
    have nia : a ≠ it := by
      rintro rfl
      obtain ⟨o, ho, hcl, _⟩ := p
      obtain ⟨o2, ho2, hcl2, _⟩ := hit
      rw [ho] at ho2
      cases ho2
      rw [hcl] at hcl2
      injection hcl2 with hcl2
      exact absurd hcl2 (by decide)
    have hlt : i < its.toArray.size := by have := (List.getElem?_eq_some_iff.mp hu).1; simpa using this
    refine wpAny_pyNext_enum_itemD (Draws.tuple (A := X.A.in1) (I.ok.hd hc) it a nia its.toArray) he ⟨hit, p⟩ hlt hne (by simp [hne, nea]) ?_
    intro u' h' tk hu' ho st' hT hsz hk
    have hu2 : its.toArray[i]? = some u' := hu'
    have : u' = u := by
      have h3 : its.toArray[i]? = some u := by simpa using hu
      rw [h3] at hu2
      exact (Option.some.inj hu2).symm
    subst this
    refine ⟨_, rfl, wpAny_letOwnedTupleGo_enum (s := { s with heap := h', toks := tk + 1 }) ho fun h'' he' sb => ?_⟩
    have hT2 : h''.get? s.heap.objs.size = some { cls := .type "tuple", data := .seq #[.int i tk, u'] } := (sb.2 _ (Nat.ne_of_gt hel)).trans hT
    have new : ObjOk X.prog X.w (upd H s.heap.objs.size (.tup [.int (i : Nat), x])) h'' s.heap.objs.size (.tup [.int (i : Nat), x]) :=
      ⟨by show 2 ≤ sizeLine; decide, [.int i tk, u'], .cons ⟨_, rfl⟩ (.cons ru .nil), ⟨_, hT2, rfl, _, rfl⟩⟩
    have kk : ∀ b ob, b ∉ [e, it] → s.heap.get? b = some ob → h''.get? b = some ob := by
      intro b ob hb q
      have h1 : b ≠ e := fun z => hb (by simp [z])
      have h2 : b ≠ it := fun z => hb (by simp [z])
      exact (sb.2 b h1).trans (hk b ob h1 h2 q)
    have I1 : Inv X pins σ (upd H s.heap.objs.size (.tup [.int (i : Nat), x])) { s with heap := h'', toks := tk + 1 } :=
      I.turnedNew (ch := [e, it]) kk hf (Nat.le_refl _) new
    refine ⟨.ref s.heap.objs.size, _, I1, rfl, ⟨_, x, rfl, I.hok.fresh (Nat.le_refl _), rfl, fun ys hy => by rw [I.tuple_inj hy hq]; exact hx⟩, ⟨⟨u', ?_⟩, st'.1.at fun o q => (sb.2 it (Ne.symm hne)).trans q, hne⟩, fun b hb => ?_⟩
    · rw [show ((i + 1 : Nat) : Int) = (i : Int) + 1 by omega]; exact he'
    · have hb' : b < s.heap.objs.size := by
        simp only [List.mem_cons, List.not_mem_nil, or_false] at hb
        rcases hb with rfl | rfl <;> assumption
      rw [upd_ne (Nat.ne_of_lt hb')]
      exact (hf b hb).1
  done := by
    intro X hP hw hK hc i pins s σ H E I hf st hg
    subst hP hw hK
    obtain ⟨⟨old, he⟩, hit, hne⟩ := st
    obtain ⟨xs, hq, hx⟩ := hg
    obtain ⟨its, rv, p, hz⟩ := I.tuple hq
    obtain ⟨f0, f1, f2, f3, f4, f5⟩ := hf it (by simp)
    have hl := rv.length
    have nia : a ≠ it := by
      rintro rfl
      obtain ⟨o, ho, hcl, _⟩ := p
      obtain ⟨o2, ho2, hcl2, _⟩ := hit
      rw [ho] at ho2
      cases ho2
      rw [hcl] at hcl2
      injection hcl2 with hcl2
      exact absurd hcl2 (by decide)
    have hi : i = its.toArray.size := by rw [List.size_toArray]; omega
    refine wpAny_pyNext_enum_endD (Draws.tuple (A := X.A.in1) (I.ok.hd hc) it a nia its.toArray) he (by rw [← hi]; exact ⟨hit, p⟩) fun h' eb => ⟨rfl, I.turned (t' := s.toks) (fun b o hb q => eb b o hb q) f0 f1 f3 f4 f5⟩
  self := by
    rintro A i s Q E ⟨⟨_, he⟩, _⟩ h
    exact wpAny_pyIter_enum he h
def iEnumT (K : PySem.W.Frag) (ta : TA) : TI := fun σ H R => ta σ H fun vs H1 => ∃ a xs, vs = [.ref a] ∧ SqT K H1 a xs ∧ R (IteT K a) H1
theorem pi_enumT {X : Cx} {e : Expr} {ta : TA} {p pos tpos : Pos} {elts : List Expr} {kk : Nat} (hg : Gl X "enumerate") (hm : X.mg "enumerate" = none) (ha : PA X [e] ta)
    (hs : starEach [e] X.env = [(false, eval e X.env)] := by rfl) : PI X (.Tuple elts kk tpos) (.Call (.Name "enumerate" p) [e] [] pos) (iEnumT X.K ta) := by
  constructor
  intro pins s σ H R I h
  refine Call_ (ld_blt I hg hm boot_enumerate (PyProof.Rows.callWith_type1 (thn (ha.run pos pins s σ H _ I h) ?_) hs rfl))
  rintro us s1 ⟨vs, H1, I1, r1, a, xs, rfl, hq, q⟩
  obtain ⟨u, rfl, rfl⟩ := vals1 r1
  obtain ⟨its, rv, p', hz⟩ := I1.tuple hq
  refine call_enumT (show s1.heap.IsTuple a its.toArray from p') fun h' he hit hk => wpAny_pyIter_enum he ?_
  have I2 : Inv X pins σ H1 { s1 with heap := h' } := I1.kept (t' := s1.toks) hk
  refine ⟨s1.heap.objs.size + 1, [s1.heap.objs.size + 1, s1.heap.objs.size], _, _, H1, rfl, I2, turn_enumT a (s1.heap.objs.size + 1) s1.heap.objs.size, ⟨⟨.none, he⟩, hit, Nat.succ_ne_self _⟩, ?_, q⟩
  intro b hb
  have hle : s1.heap.objs.size ≤ b := by
    simp only [List.mem_cons, List.not_mem_nil, or_false] at hb
    rcases hb with rfl | rfl <;> omega
  exact I1.fpOk hle (I1.hok.fresh hle)
theorem walk_enumT {K : PySem.W.Frag} {a : Addr} {xs : List V} : Walk (IteT K a) xs.length (fun H => SqT K H a xs) (YPair (fun i => some (.int (i : Nat))) (fun i => xs[i]?)) := by
  constructor
  · intro i H hi q
    exact ⟨xs, xs[i], q, by simp [hi]⟩
  · intro H q
    exact ⟨xs, q, rfl⟩
  · rintro i H v H' _ q ⟨T, x, h1, h2, h3, h4⟩
    exact ⟨T, _, x, h1, h2, h3, rfl, h4 xs q⟩
/-! zip of a list and a tuple -/
abbrev zm1 (h : Heap) (l1 : Addr) : Heap := h.push { cls := .type "list_iterator", data := .fields #[.ref l1, .int 0 0] }
abbrev zm2 (h : Heap) (l1 l2 : Addr) : Heap := (zm1 h l1).push { cls := .type "tuple_iterator", data := .fields #[.ref l2, .int 0 0] }
abbrev zm3 (h : Heap) (l1 l2 : Addr) : Heap := (zm2 h l1 l2).push { cls := .type "tuple", data := .seq #[.ref h.objs.size, .ref (zm1 h l1).objs.size] }
abbrev zm4 (h : Heap) (l1 l2 : Addr) : Heap := (zm3 h l1 l2).push { cls := .type "tuple", data := .seq #[.none, .none] }
abbrev zm5 (h : Heap) (l1 l2 : Addr) : Heap := (zm4 h l1 l2).push { cls := .type "zip", data := .fields #[.none, .bool false, .bool false, .ref (zm2 h l1 l2).objs.size, .ref (zm3 h l1 l2).objs.size] }
theorem zipM_new (l1 l2 : Addr) (xs ys : Array Value) :
    Meets (Builtin.«zip.__new__» ⟨[.type "zip", .ref l1, .ref l2], []⟩) (fun _ R s => s.heap.IsList l1 xs ∧ s.heap.IsTuple l2 ys ∧
      R (.ok (.ret (.ref (zm4 s.heap l1 l2).objs.size))) { s with heap := zm5 s.heap l1 l2 }) :=
  .of_wp fun prog w A R s h => by
    obtain ⟨hp, g, d, tk, os⟩ := s
    obtain ⟨hl1, hl2, h⟩ := h
    have hsub := sub_zip
    have hL1 : Heap.IsList (Shared.heap ⟨hp, g, d, tk, os⟩) l1 xs := hl1
    have hL2 : Heap.IsTuple (Shared.heap ⟨zm1 hp l1, g, d, tk, os⟩) l2 ys := Heap.IsTuple.push hl2 _
    wp_walk using wpAny_pyIter_list hL1, wpAny_pyIter_tuple hL2
    exact ⟨_, rfl, h⟩
theorem call_zipM {prog : Program} {w : World} {A : Around} {E : Value → Shared → Prop} {s : Shared} {l1 l2 : Addr} {xs ys : Array Value} {Q : Value → Shared → Prop} (hl1 : s.heap.IsList l1 xs) (hl2 : s.heap.IsTuple l2 ys)
    (h : ∀ h', IsZip h' (s.heap.objs.size + 4) (s.heap.objs.size + 2) (s.heap.objs.size + 3) .none → IsPair h' (s.heap.objs.size + 2) (.ref s.heap.objs.size) (.ref (s.heap.objs.size + 1)) →
      IsPair h' (s.heap.objs.size + 3) .none .none → h'.IsListIter s.heap.objs.size l1 0 → h'.IsTupleIter (s.heap.objs.size + 1) l2 0 →
      (∀ c o, s.heap.get? c = some o → h'.get? c = some o) → Q (.ref (s.heap.objs.size + 4)) { s with heap := h' }) :
    wpAny (model prog w) A (call (.type "zip") [.ref l1, .ref l2]) Q E s := by
  refine callType_new F.called_zip (by decide) (F.typeCall_zip_2 _ _) (F.newCall_zip_2 _ _) (fun obj => F.args_object_init_3 obj _ _) F.entry_zip_new (zipM_new l1 l2 xs ys) ⟨hl1, hl2, ?_⟩
  have z1 : (zm1 s.heap l1).objs.size = s.heap.objs.size + 1 := Heap.size_push ..
  have z2 : (zm2 s.heap l1 l2).objs.size = s.heap.objs.size + 2 := by rw [Heap.size_push, z1]
  have z3 : (zm3 s.heap l1 l2).objs.size = s.heap.objs.size + 3 := by rw [Heap.size_push, z2]
  have z4 : (zm4 s.heap l1 l2).objs.size = s.heap.objs.size + 4 := by rw [Heap.size_push, z3]
  have g5 : (zm5 s.heap l1 l2).get? (zm4 s.heap l1 l2).objs.size = some _ := Heap.get?_push_size _ rfl
  have g4 : (zm5 s.heap l1 l2).get? (zm3 s.heap l1 l2).objs.size = some _ := Heap.get?_push_of_some _ (Heap.get?_push_size _ rfl)
  have g3 : (zm5 s.heap l1 l2).get? (zm2 s.heap l1 l2).objs.size = some _ := Heap.get?_push_of_some _ (Heap.get?_push_of_some _ (Heap.get?_push_size _ rfl))
  have g2 : (zm5 s.heap l1 l2).get? (zm1 s.heap l1).objs.size = some _ := Heap.get?_push_of_some _ (Heap.get?_push_of_some _ (Heap.get?_push_of_some _ (Heap.get?_push_size _ rfl)))
  have g1 : (zm5 s.heap l1 l2).get? s.heap.objs.size = some _ := Heap.get?_push_of_some _ (Heap.get?_push_of_some _ (Heap.get?_push_of_some _ (Heap.get?_push_of_some _ (Heap.get?_push_size _ rfl))))
  show _ ∧ _
  rw [z2, z3, z4] at g5
  rw [z1, z2] at g3
  rw [z3] at g4
  rw [z1] at g2
  rw [z4]
  refine ⟨⟨_, g5, rfl⟩, h _ g5 g3 g4 ⟨_, g1, rfl, rfl⟩ ⟨_, g2, rfl, rfl⟩ ?_⟩
  intro c o x
  exact Heap.get?_push_of_some _ (Heap.get?_push_of_some _ (Heap.get?_push_of_some _ (Heap.get?_push_of_some _ (Heap.get?_push_of_some _ x))))
def ItzM (K : PySem.W.Frag) (a b : Addr) : It :=
  ⟨fun i H => ∃ (xs ys : List V) (x y : V), SqL K H a xs ∧ SqT K H b ys ∧ xs[i]? = some x ∧ ys[i]? = some y,
   fun i H v H' => ∃ T x y, v = .ref T ∧ H T = none ∧ H' = upd H T (.tup [x, y]) ∧ (∀ xs, SqL K H a xs → xs[i]? = some x) ∧ ∀ ys, SqT K H b ys → ys[i]? = some y,
   fun i H => ∃ xs ys : List V, SqL K H a xs ∧ SqT K H b ys ∧ min xs.length ys.length = i⟩
theorem sepM {z TI TO i1 i2 a b : Addr} (D : ZipApart z TI TO i1 i2 a b) : ZipSep2 z TI TO i1 i2 [i1, a] [i2, b] := by
  refine ⟨D.TIz, D.TOz, D.TITO, D.TIi1, by simp, ?_, ?_, D.TIi2, by simp, ?_, ?_, ?_, ?_⟩ <;>
    simp only [List.mem_cons, List.not_mem_nil, or_false, not_or]
  · exact ⟨D.i1z.symm, D.l1z.symm⟩
  · exact ⟨D.TOi1, D.l1TO.symm⟩
  · exact ⟨D.i2z.symm, D.l2z.symm⟩
  · exact ⟨D.TOi2, D.l2TO.symm⟩
  · exact ⟨D.i12, D.l2i1.symm⟩
  · exact ⟨D.i12.symm, D.l1i2.symm⟩
theorem turn_zipM {P : Program} {w : World} {K : PySem.W.Frag} {elts : List Expr} {kk : Nat} {tpos : Pos} {a b z TI TO i1 i2 : Addr} (D : ZipApart z TI TO i1 i2 a b) :
    Turn P w K (.Tuple elts kk tpos) (ItzM K a b) [z, TI, TO, i1, i2] z
      (fun i h => IsZip h z TI TO .none ∧ IsPair h TI (.ref i1) (.ref i2) ∧ (∃ x y, IsPair h TO x y) ∧ h.IsListIter i1 a i ∧ h.IsTupleIter i2 b i) where
  mem := by simp
  obj := by
    rintro i h ⟨hz, hTI, ⟨x, y, hTO⟩, ⟨o1, e1, _, d1⟩, ⟨o2, e2, _, d2⟩⟩ c hc
    simp only [List.mem_cons, List.not_mem_nil, or_false] at hc
    rcases hc with rfl | rfl | rfl | rfl | rfl
    · exact ⟨_, hz, fun v q => nomatch q⟩
    · exact ⟨_, hTI, fun v q => nomatch q⟩
    · exact ⟨_, hTO, fun v q => nomatch q⟩
    · exact ⟨o1, e1, fun v q => by rw [d1] at q; cases q⟩
    · exact ⟨o2, e2, fun v q => by rw [d2] at q; cases q⟩
  keep := by
    rintro i h h' ⟨hz, hTI, ⟨x, y, hTO⟩, h1, h2⟩ k
    exact ⟨k z (by simp) _ hz, k TI (by simp) _ hTI, ⟨x, y, k TO (by simp) _ hTO⟩, h1.at fun o q => k i1 (by simp) o q, h2.at fun o q => k i2 (by simp) o q⟩
  item := by
    intro X hP hw hK hc i pins s σ H E I hf st hg
    subst hP hw hK
    obtain ⟨hz, hTI, ⟨x0, y0, hTO⟩, h1, h2⟩ := st
    obtain ⟨xs, ys, x, y, hqx, hqy, hx, hy⟩ := hg
    obtain ⟨its, rv, p, _⟩ := I.list hqx
    obtain ⟨its2, rv2, p2, _⟩ := I.tuple hqy
    obtain ⟨u, hu, ru⟩ := rv.get hx
    obtain ⟨u2, hu2, ru2⟩ := rv2.get hy
    have hzl : z < s.heap.objs.size := Heap.lt_size hz
    have hl1 : i < its.toArray.size := by have := (List.getElem?_eq_some_iff.mp hu).1; simpa using this
    have hl2 : i < its2.toArray.size := by have := (List.getElem?_eq_some_iff.mp hu2).1; simpa using this
    refine wpAny_pyNext_zipD2_item (sepM D) (Draws.list (A := X.A.in1) (I.ok.hd hc) i1 a D.l1i1 its.toArray) (Draws.tuple (A := X.A.in1) (I.ok.hd hc) i2 b D.l2i2 its2.toArray) hz hTI hTO ⟨h1, p.isList⟩ ⟨h2, p2⟩ hl1 hl2 ?_
    intro v1 v2 h' tk hv1 hv2 z' TO' st1 st2 hT hsz hk
    have e1 : v1 = u := by
      have h3 : its.toArray[i]? = some u := by simpa using hu
      rw [show its.toArray[i]? = some v1 from hv1] at h3
      exact Option.some.inj h3
    have e2 : v2 = u2 := by
      have h3 : its2.toArray[i]? = some u2 := by simpa using hu2
      rw [show its2.toArray[i]? = some v2 from hv2] at h3
      exact Option.some.inj h3
    subst e1 e2
    refine ⟨_, rfl, wpAny_letOwnedTupleGo_zip (s := { s with heap := h', toks := tk }) z' fun h'' z'' sb => ?_⟩
    have hT2 : h''.get? s.heap.objs.size = some { cls := .type "tuple", data := .seq #[v1, v2] } := (sb.2 _ (Nat.ne_of_gt hzl)).trans hT
    have new : ObjOk X.prog X.w (upd H s.heap.objs.size (.tup [x, y])) h'' s.heap.objs.size (.tup [x, y]) :=
      ⟨by show 2 ≤ sizeLine; decide, [v1, v2], .cons ru (.cons ru2 .nil), ⟨_, hT2, rfl, _, rfl⟩⟩
    have kk : ∀ c o, c ∉ [z, TI, TO, i1, i2] → s.heap.get? c = some o → h''.get? c = some o := by
      intro c o hb q
      simp only [List.mem_cons, List.not_mem_nil, or_false, not_or] at hb
      exact (sb.2 c hb.1).trans (hk c o hb.1 hb.2.2.1 hb.2.2.2.1 hb.2.2.2.2 q)
    have I1 : Inv X pins σ (upd H s.heap.objs.size (.tup [x, y])) { s with heap := h'', toks := tk } :=
      I.turnedNew (t' := tk) (ch := [z, TI, TO, i1, i2]) kk hf (Nat.le_refl _) new
    refine ⟨.ref s.heap.objs.size, _, I1, rfl, ⟨_, x, y, rfl, I.hok.fresh (Nat.le_refl _), rfl, fun l hl => by rw [I.list_inj hl hqx]; exact hx, fun l hl => by rw [I.tuple_inj hl hqy]; exact hy⟩, ⟨z'', ?_, ⟨v1, v2, ?_⟩, ?_, ?_⟩, ?_⟩
    · exact (sb.2 _ D.TIz).trans (hk _ _ D.TIz D.TITO D.TIi1 D.TIi2 hTI)
    · exact (sb.2 _ D.TOz).trans TO'
    · exact st1.1.at fun o q => (sb.2 _ D.i1z).trans q
    · exact st2.1.at fun o q => (sb.2 _ D.i2z).trans q
    · intro c hcm
      have hlt : c < s.heap.objs.size := by
        simp only [List.mem_cons, List.not_mem_nil, or_false] at hcm
        rcases hcm with rfl | rfl | rfl | rfl | rfl
        · exact hzl
        · exact Heap.lt_size hTI
        · exact Heap.lt_size hTO
        · obtain ⟨_, e1, _⟩ := h1; exact Heap.lt_size e1
        · obtain ⟨_, e2, _⟩ := h2; exact Heap.lt_size e2
      rw [upd_ne (Nat.ne_of_lt hlt)]
      exact (hf c hcm).1
  done := by
    intro X hP hw hK hc i pins s σ H E I hf st hg
    subst hP hw hK
    obtain ⟨hz, hTI, ⟨x0, y0, hTO⟩, h1, h2⟩ := st
    obtain ⟨xs, ys, hqx, hqy, hend⟩ := hg
    obtain ⟨its, rv, p, _⟩ := I.list hqx
    obtain ⟨its2, rv2, p2, _⟩ := I.tuple hqy
    have l1 := rv.length
    have l2 := rv2.length
    refine wpAny_pyNext_zipD2_end (i := i) (sepM D) (Draws.list (A := X.A.in1) (I.ok.hd hc) i1 a D.l1i1 its.toArray) (Draws.tuple (A := X.A.in1) (I.ok.hd hc) i2 b D.l2i2 its2.toArray) hz hTI hTO ⟨h1, p.isList⟩ ⟨h2, p2⟩ (by simp; omega) (by simp; omega) (by simp; omega) ?_
    intro h' tk hk
    refine ⟨rfl, I.turnedL (t' := tk) (ch := [z, TI, TO, i1, i2]) ?_ hf⟩
    intro c o hb q
    simp only [List.mem_cons, List.not_mem_nil, or_false, not_or] at hb
    exact hk c o hb.1 hb.2.2.1 hb.2.2.2.1 hb.2.2.2.2 q
  self := fun A i s Q E st h => wpAny_pyIter_zip st.1 h
def iZipM (K : PySem.W.Frag) (ta : TA) : TI := fun σ H R => ta σ H fun vs H1 => ∃ a b xs ys, vs = [.ref a, .ref b] ∧ SqL K H1 a xs ∧ SqT K H1 b ys ∧ R (ItzM K a b) H1
theorem pi_zipM {X : Cx} {e e2 : Expr} {ta : TA} {p pos tpos : Pos} {elts : List Expr} {kk : Nat} (hg : Gl X "zip") (hm : X.mg "zip" = none) (ha : PA X [e, e2] ta)
    (hs : starEach [e, e2] X.env = (false, eval e X.env) :: starEach [e2] X.env := by rfl) (hpl : (backTo pos (starEach [e2] X.env)).any (·.1) = false := by rfl) :
    PI X (.Tuple elts kk tpos) (.Call (.Name "zip" p) [e, e2] [] pos) (iZipM X.K ta) := by
  constructor
  intro pins s σ H R I h
  refine Call_ (ld_blt I hg hm PyProof.Rows.boot_zip (PyProof.Rows.callWith_type1 (thn (ha.run pos pins s σ H _ I h) ?_) hs hpl))
  rintro us s1 ⟨vs, H1, I1, r1, a, b, xs, ys, rfl, hqx, hqy, q⟩
  obtain ⟨u, v, rfl, rfl, rfl⟩ := vals2 r1
  obtain ⟨its, rv, p1, _⟩ := I1.list hqx
  obtain ⟨its2, rv2, p2, _⟩ := I1.tuple hqy
  refine call_zipM p1.isList (show s1.heap.IsTuple b its2.toArray from p2) fun h' hz hTI hTO h1 h2 hk => wpAny_pyIter_zip hz ?_
  have I2 : Inv X pins σ H1 { s1 with heap := h' } := I1.kept (t' := s1.toks) hk
  refine ⟨s1.heap.objs.size + 4, [s1.heap.objs.size + 4, s1.heap.objs.size + 2, s1.heap.objs.size + 3, s1.heap.objs.size, s1.heap.objs.size + 1], _, _, H1, rfl, I2,
    turn_zipM (PySem.W.ktu_apart s1.heap.objs.size a b p1.lt (tupLt p2)), ⟨hz, hTI, ⟨_, _, hTO⟩, h1, h2⟩, ?_, q⟩
  intro c hcm
  have hle : s1.heap.objs.size ≤ c := by
    simp only [List.mem_cons, List.not_mem_nil, or_false] at hcm
    rcases hcm with rfl | rfl | rfl | rfl | rfl <;> omega
  exact I1.fpOk hle (I1.hok.fresh hle)
theorem walk_zipM {K : PySem.W.Frag} {a b : Addr} {xs ys : List V} {n : Nat} (hn : n = min xs.length ys.length) :
    Walk (ItzM K a b) n (fun H => SqL K H a xs ∧ SqT K H b ys) (YPair (fun i => xs[i]?) (fun i => ys[i]?)) := by
  subst hn
  constructor
  · rintro i H hi ⟨q1, q2⟩
    have h1 : i < xs.length := by omega
    have h2 : i < ys.length := by omega
    exact ⟨xs, ys, xs[i], ys[i], q1, q2, by simp [h1], by simp [h2]⟩
  · rintro H ⟨q1, q2⟩
    exact ⟨xs, ys, q1, q2, rfl⟩
  · rintro i H v H' _ ⟨q1, q2⟩ ⟨T, x, z, h1, h2, h3, h4, h5⟩
    exact ⟨T, x, z, h1, h2, h3, h4 xs q1, h5 ys q2⟩
end Pv

/-! t[::-1] of a tuple -/
namespace HT
open PySem PyProof.Rows
section
variable {prog : Program} {w : World} {A : Around} {E : Value → Shared → Prop} {s : Shared}
theorem pv_pickBack (xs : Array Value) : ((List.range xs.size).filterMap fun (k : Nat) => xs[(((xs.size : Int) - 1) + (k : Int) * (-1)).toNat]?) = xs.toList.reverse := by
  apply List.ext_getElem?
  intro i
  have e : ∀ n, n ≤ xs.size → ((List.range n).filterMap fun (k : Nat) => xs[(((xs.size : Int) - 1) + (k : Int) * (-1)).toNat]?) = xs.toList.reverse.take n := by
    intro n
    induction n with
    | zero => intro _; rfl
    | succ n ih =>
      intro hn
      rw [List.range_succ, List.filterMap_append, ih (by omega), List.take_add_one]
      congr 1
      have h1 : (((xs.size : Int) - 1) + (n : Int) * (-1)).toNat = xs.size - 1 - n := by omega
      rw [List.filterMap_cons, List.filterMap_nil, h1, List.getElem?_reverse (by rw [Array.length_toList]; omega), Array.length_toList, Array.getElem?_toList]
      cases xs[xs.size - 1 - n]? <;> rfl
  rw [e xs.size (Nat.le_refl _), List.take_of_length_le (by simp)]
theorem pv_appliedBack {sl : Addr} {n : Nat} {t : Tok} {Q : Int × Int × Nat → Shared → Prop} (hs : s.heap.IsSliceOf sl .none .none (.int (-1) t)) (h : Q ((n : Int) - 1, -1, n) s) :
    wpAny (model prog w) A (Builtin.Slice.sliceApplied (.ref sl) (pure (n : Int))) Q E s := by
  obtain ⟨os, hos, hcs, hds⟩ := id hs
  unfold Builtin.Slice.sliceApplied Builtin.Slice.sliceFields
  refine wpAny_bind (wpAny_bind (wpAny_field hos hds (x := .none) rfl (wpAny_bind (wpAny_field hos hds (x := .none) rfl (wpAny_bind (wpAny_field hos hds (x := .int (-1) t) rfl (wpAny_pure ?_)))))))
  refine wpAny_bind (slicePart_ (IsPart.int (-1) t) ?_)
  show wpAny _ _ (if ((-1 : Int) == 0) = true then _ else _) _ _ s
  rw [if_neg (by decide)]
  refine wpAny_bind (slicePart_ IsPart.none (wpAny_bind (slicePart_ IsPart.none (wpAny_bind (wpAny_pure ?_)))))
  show wpAny _ _ (match Builtin.Slice.sliceAdjust none none (-1) (n : Int) with | (a, b) => pure (a, (-1 : Int), Builtin.Slice.slicePlaces a b (-1))) _ _ s
  have e1 : Builtin.Slice.sliceAdjust none none (-1) (n : Int) = ((n : Int) - 1, -1) := rfl
  rw [e1]
  show wpAny _ _ (pure ((n : Int) - 1, (-1 : Int), Builtin.Slice.slicePlaces ((n : Int) - 1) (-1) (-1))) _ _ s
  have e2 : Builtin.Slice.slicePlaces ((n : Int) - 1) (-1) (-1) = n := by
    unfold Builtin.Slice.slicePlaces
    have h1 : ¬ ((-1 : Int) > 0) := by omega
    simp only [h1, if_false]
    by_cases h2 : (n : Int) - 1 > -1
    · rw [if_pos h2]
      have h3 : -(-1 : Int) = 1 := rfl
      rw [h3, Int.ediv_one]
      omega
    · rw [if_neg h2]; omega
  rw [e2]
  exact wpAny_pure h
theorem pv_getItemBack {p sl : Addr} {items : Array Value} {t : Tok} {Q : Value → Shared → Prop} (ht : IsTup s.heap p items) (hs : s.heap.IsSliceOf sl .none .none (.int (-1) t))
    (h : Q (.ref s.heap.objs.size) { s with heap := s.heap.push { cls := .type "tuple", data := .seq items.toList.reverse.toArray } }) (hsz : items.size ≤ sizeLine) : wpAny (model prog w) A (getItem (.ref p) (.ref sl)) Q E s := by
  have hfit : sizeOk (.seq items.toList.reverse.toArray) := by
    show items.toList.reverse.toArray.size ≤ sizeLine
    rw [List.size_toArray, List.length_reverse]; simpa using hsz
  obtain ⟨os, hos, hcs, hds⟩ := id hs
  have hT : s.TypeIs (.ref sl) "slice" := ⟨os, hos, hcs⟩
  unfold getItem; try with_reducible refine wpAny_holding ?_
  first | refine wpAny_bind (wpAny_pure ?_) | skip
  refine wpAny_bind (wpAny_sequenceKey ht.typeIs (by decide) (wpAny_bind (wpAny_callSpecial?_slot (name := Str.ofString "__getitem__") ht.typeIs PyProof.Rows.slot_tuple_getitem
    (wpAny_call_entry PyProof.Rows.slot_tuple_getitem ht.typeIs entry_tuple_getitem ?_ (args_tuple_getitem _ _)))))
  show wpAny _ _ (Builtin.Tuple.tupleItemsOf (.ref p) >>= _) _ _ s
  refine wpAny_bind (tupleItemsOf_ ht (wpAny_bind (wpAny_typeOf hT ?_)))
  rw [if_pos (by decide)]
  refine wpAny_bind (pv_appliedBack hs ?_)
  show wpAny _ _ (if (((items.size : Int) - 1) == 0 && (-1 : Int) == 1 && items.size == items.size) = true then _ else _) _ _ s
  rw [if_neg (by simp)]
  show wpAny _ _ (Builtin.Tuple.tupleExact ((List.range items.size).filterMap fun (k : Nat) => items[(((items.size : Int) - 1) + (k : Int) * (-1)).toNat]?).toArray >>= _) _ _ s
  rw [pv_pickBack]
  first
    | exact wpAny_bind (m := Builtin.Tuple.tupleExact _) (wpAny_newObj_type (wpAny_pure ⟨_, rfl, wpAny_pure h⟩) hfit)
    | exact wpAny_bind (m := Builtin.Tuple.tupleExact _) (wpAny_newObj_type (wpAny_bind (wpAny_pure (wpAny_pure ⟨_, rfl, wpAny_pure h⟩))) hfit)
    | exact wpAny_bind (wpAny_bind (m := Builtin.Tuple.tupleExact _) (wpAny_newObj_type (wpAny_pure (wpAny_pure ⟨_, rfl, wpAny_pure h⟩)) hfit))
    | exact wpAny_bind (wpAny_bind (m := Builtin.Tuple.tupleExact _) (wpAny_newObj_type (wpAny_pure ⟨_, rfl, wpAny_pure h⟩) hfit))
end
end HT
namespace Pv
open PySem PySem.Spec PyProof.Rows L2
def tRevT (K : PySem.W.Frag) (te : TE) : TE := fun σ H Q => te σ H fun x H1 => ∃ (a : Addr) (xs : List V), x = .ref a ∧ SqT K H1 a xs ∧ ∀ p, H1 p = none → Q (.ref p) (upd H1 p (.tup xs.reverse))
section
variable {X : Cx}
theorem pe_revT {e : Expr} {te : TE} {k : Nat} {p1 p2 p3 pos : Pos} (he : PE X e te) : PE X (.Subscript e (.Slice none none (some (.UnaryOp .USub (.Constant (.int 1) k p1) p2)) p3) pos) (tRevT X.K te) := by
  constructor
  intro pins s σ H Q I h
  refine Subscript_ (thn (he.run pins s σ H _ I h) ?_)
  rintro v s1 ⟨x, H1, I1, r1, a, xs, rfl, hx, q⟩
  cases r1
  have hst : PO X (some (.UnaryOp .USub (.Constant (.int 1) k p1) p2)) (tPart (tUn (rU fun i => .int (-i)) (tC (.int 1)))) := po_some (pe_un un_neg pe_int)
  refine wpAny_Slice (thn (po_none.run pins s1 σ H1 (fun o H2 => o = none ∧ H2 = H1) I1 ⟨rfl, rfl⟩) ?_)
  rintro vl s2 ⟨l, H2, I2, pl, rfl, rfl⟩
  refine thn (po_none.run pins s2 σ H2 (fun o H3 => o = none ∧ H3 = H2) I2 ⟨rfl, rfl⟩) ?_
  rintro vu s3 ⟨u, H3, I3, pu, rfl, rfl⟩
  refine thn (hst.run pins s3 σ H3 (fun o H4 => o = some (-1) ∧ H4 = H3) I3 ⟨1, rfl, -1, rfl, rfl, rfl⟩) ?_
  rintro vs s4 ⟨o, H4, I4, ps, rfl, rfl⟩
  have I5 : Inv X pins σ H4 { s4 with heap := s4.heap.push { cls := .type "slice", data := .fields #[vl, vu, vs] } } := I4.kept (t' := s4.toks) fun b ob q => Heap.get?_push_of_some _ q
  obtain ⟨its, r, ht, hz⟩ := I5.tuple hx
  have hlen := r.length
  cases pl
  cases pu
  cases ps
  show wpAny (model X.prog X.w) X.A (subscriptTail e (.Slice none none (some (.UnaryOp .USub (.Constant (.int 1) k p1) p2)) p3) (.ref a) (.ref s4.heap.objs.size)) (EP X pins σ Q) X.xe _
  refine tail_any (ops := [.ref a, .ref s4.heap.objs.size]) ht.typeIs (PyProof.Rows.slot_tuple_getitem.lookup) ?_ (by with_unfolding_all rfl)
  refine HT.pv_getItemBack ht (Heap.IsSliceOf.new _ _ _ _) ?_ (by rw [List.size_toArray]; omega)
  refine ⟨.ref _, _, I5.laid (t' := s4.toks) (o := .tup xs.reverse) (fun b ob q => Heap.get?_push_of_some _ q) (Nat.le_refl _) ?_, rfl, q _ (I5.hok.fresh (Nat.le_refl _))⟩
  exact ⟨by rw [List.length_reverse]; exact hz, _, r.reverse, IsTup.new _ _⟩
/-! list == [], tuple != () whatever the items are -/
def rEqNil (K : PySem.W.Frag) : R2 := fun x y H Q => ∃ (a b : Addr) (xs : List V), x = .ref a ∧ y = .ref b ∧ SqL K H a xs ∧ SqL K H b [] ∧ Q (.bl xs.isEmpty) H
theorem op_eqNil (hu : X.A.units < cLine) : OpR X (compareOp .Eq) (rEqNil X.K) := by
  intro pins s σ H x y v u Q I rx ry h
  obtain ⟨a, b, xs, rfl, rfl, ha, hb, q⟩ := h
  cases rx
  cases ry
  obtain ⟨its, r1, p1, z1⟩ := I.list ha
  obtain ⟨its2, r2, p2, z2⟩ := I.list hb
  cases r2
  cases xs with
  | nil =>
    cases r1
    exact SeqAt.RcAt.lists (e := fun _ => true) p1.isList p2.isList rfl hu (fun j h1 _ => absurd h1 (Nat.not_lt_zero _)) X.prog X.w _ _ ⟨.bl true, H, I, rfl, q⟩
  | cons x xs =>
    have hl := r1.length
    exact SeqAt.RcAt.lists_lengths p1.isList p2.isList (by rw [List.size_toArray, ← hl]; rfl) hu X.prog X.w _ _ ⟨.bl false, H, I, rfl, q⟩
def rNeNilT (K : PySem.W.Frag) : R2 := fun x y H Q => ∃ (a b : Addr) (xs : List V), x = .ref a ∧ y = .ref b ∧ SqT K H a xs ∧ SqT K H b [] ∧ Q (.bl (!xs.isEmpty)) H
theorem op_neNilT (hu : X.A.units < cLine) : OpR X (compareOp .NotEq) (rNeNilT X.K) := by
  intro pins s σ H x y v u Q I rx ry h
  obtain ⟨a, b, xs, rfl, rfl, ha, hb, q⟩ := h
  cases rx
  cases ry
  obtain ⟨its, r1, p1, z1⟩ := I.tuple ha
  obtain ⟨its2, r2, p2, z2⟩ := I.tuple hb
  cases r2
  have hl := r1.length
  have key := SeqAt.RcNeAt.tuples (A := X.A) (e := fun _ => true) (show s.heap.IsTuple a its.toArray from p1) (show s.heap.IsTuple b ([] : List Value).toArray from p2) hu (fun j _ h2 => absurd h2 (Nat.not_lt_zero _)) X.prog X.w
  have e : (!((List.range (min its.toArray.size ([] : List Value).toArray.size)).all (fun _ => true) && its.toArray.size == ([] : List Value).toArray.size)) = !xs.isEmpty := by
    rw [List.size_toArray, ← hl]
    cases xs <;> simp
  rw [e] at key
  exact key _ _ ⟨.bl _, H, I, rfl, q⟩
end
end Pv

namespace Pv
open PySem PySem.Spec PyProof.Rows L2
theorem samePut {H H1 : Hp} {D : Addr} {o : HO} (s : Same H H1) (nD : H D = none) : Same H (upd H1 D o) := fun b z e => by rw [upd_ne (ne_of_none e nD)]; exact s b z e
theorem ty_sq {K : PySem.W.Frag} {H : Hp} {a : Addr} {xs : List V} (h : SqT K H a xs) : TyX K H (.ref a) (.type "tuple") := by
  rcases h with (h | ⟨o, h⟩) | ⟨o, its, n, h, hc, _⟩
  · exact .base (.tup h)
  · exact .fTuple h
  · exact .kTuple h hc
theorem small {n : Nat} (h : n ≤ 1000000) : n < sizeLine := Nat.lt_of_le_of_lt h (by decide)
def addAt (ls : List Int) (p x : Int) : List Int := ls.set p.toNat (ls.getD p.toNat 0 + x)
theorem addAt_len (ls : List Int) (p x : Int) : (addAt ls p x).length = ls.length := by simp [addAt]
theorem freeOf {H : Hp} {p b : Addr} {o : HO} (h : upd H p o b = none) : H b = none := by
  by_cases e : b = p
  · subst e; rw [upd_same] at h; cases h
  · rw [upd_ne e] at h; exact h
theorem ixN_nat {n j : Nat} (h : j < n) : ixN n (j : Int) = some j := by
  unfold ixN
  rw [if_pos (by omega), if_pos (by omega)]
  simp
theorem zip_take {α β : Type} : ∀ (n : Nat) (a : List α) (b : List β), (a.take n).zip (b.take n) = (a.zip b).take n
  | 0, _, _ => by simp
  | _ + 1, [], _ => by simp
  | _ + 1, _ :: _, [] => by simp
  | n + 1, x :: a, y :: b => by simp [zip_take n a b]
def zeros (n : Nat) : List Int := List.replicate n 0
theorem zeros_V (n : Nat) : (List.replicate n [V.int 0]).flatten = (zeros n).map V.int := by
  unfold zeros
  induction n with
  | zero => rfl
  | succ n ih => rw [List.replicate_succ, List.flatten_cons, ih]; rfl
theorem zip_snoc {α β : Type} {a : List α} {b : List β} {i : Nat} {x : α} {y : β} (hx : a[i]? = some x) (hy : b[i]? = some y) : (a.take (i + 1)).zip (b.take (i + 1)) = (a.take i).zip (b.take i) ++ [(x, y)] := by
  rw [zip_take, zip_take, List.take_add_one]
  have : (a.zip b)[i]? = some (x, y) := by
    rw [List.getElem?_zip_eq_some]; exact ⟨hx, hy⟩
  rw [this]; rfl
theorem take_snoc {α : Type} {l : List α} {i : Nat} {x : α} (h : l[i]? = some x) : l.take (i + 1) = l.take i ++ [x] := by rw [List.take_add_one, h]; rfl
theorem cut_to (xs : List V) (n : Nat) : cutV xs none (some (n : Int)) = xs.take n := by
  unfold cutV
  rw [HT.sIx_none, HT.sIx_nat, List.drop_zero, Nat.sub_zero]
  by_cases h : n ≤ xs.length
  · rw [Nat.min_eq_left h]
  · rw [Nat.min_eq_right (by omega), List.take_length, List.take_of_length_le (by omega)]
def absI (i : Int) : Int := if i < 0 then -i else i
theorem absI_nn (i : Int) : 0 ≤ absI i := by unfold absI; split <;> omega
def restI (c : Int) : Int := c * (if decide ((10 : Int) ^ (18 : Int).toNat ≤ c) = true then 1 else 0)
theorem restI_nn {c : Int} (h : 0 ≤ c) : 0 ≤ restI c := by unfold restI; split <;> omega
structure InsOk (cs : List Int) (gs : List Gp) : Prop where
  c1 : 1 ≤ cs.length
  c6 : cs.length ≤ 6
  cb : ∀ c ∈ cs, 1 ≤ c ∧ c ≤ 10 ^ 12
  g1 : 1 ≤ gs.length
  g10 : gs.length ≤ 10
  gp : ∀ g ∈ gs, g.1.length ≤ 6 ∧ (∀ p ∈ g.1, 0 ≤ p ∧ p < (cs.length : Int)) ∧ 1 ≤ g.2 ∧ g.2 ≤ 10 ^ 12
theorem ExtPut {st r p : Addr} {H H1 : Hp} {o : HO} (x : Ext st r H H1) (np : H p = none) : Ext st r H (upd H1 p o) := fun b z e n1 n2 => by rw [upd_ne (ne_of_none e np)]; exact x b z e n1 n2
theorem Ext.nil {st c r p : Addr} {t : Nat} {H H1 : Hp} (x : Ext st r H H1) (d : DS H1 st c r t) (np : H1 p = none) : H p = none := by
  have o := d.off np
  cases e : H p with
  | none => rfl
  | some z => rw [x _ _ e o.1 o.2.2] at np; cases np
def upTo (n : Nat) : List Int := (List.range n).map fun (i : Nat) => (i : Int)
theorem rgV_upTo (n : Nat) : rgV 0 (n : Int) = (upTo n).map V.int := by
  unfold rgV upTo
  rw [List.map_map]
  simp
theorem upTo_len (n : Nat) : (upTo n).length = n := by simp [upTo]
theorem upTo_mem {n : Nat} {x : Int} (h : x ∈ upTo n) : 0 ≤ x ∧ x < n := by
  unfold upTo at h
  obtain ⟨i, hi, rfl⟩ := List.mem_map.mp h
  have := List.mem_range.mp hi
  omega
theorem erase_map {α β : Type} (f : α → β) : ∀ (l : List α) (k : Nat), (l.map f).eraseIdx k = (l.eraseIdx k).map f
  | [], _ => rfl
  | _ :: _, 0 => rfl
  | x :: l, k + 1 => by simp [erase_map f l k]
theorem fine_grp {cs : List Int} {gs : List Gp} (ok : InsOk cs gs) {g : Gp} (hg : g ∈ gs) : Fine 2 500 (dGrp g) := by
  obtain ⟨h1, h2, h3, h4⟩ := ok.gp g hg
  refine (fine_tup (k := 1) (B := 200) (n := 2) (xs := [dI g.1, .int g.2]) ?_ (by simp)).mono (by omega) (by omega)
  intro x hx
  simp at hx
  rcases hx with rfl | rfl
  · exact (fine_dI (n := 6) (fun p hp => by have := h2 p hp; have := ok.c6; omega) h1).mono (by omega) (by omega)
  · exact (fine_int (by omega)).mono (by omega) (by omega)
theorem fine_inst {cs : List Int} {gs : List Gp} (ok : InsOk cs gs) : Fine 4 20000 (dInst cs gs) := by
  refine (fine_tup (k := 3) (B := 8000) (n := 2) (xs := [dI cs, .tuple (gs.map dGrp)]) ?_ (by simp)).mono (by omega) (by omega)
  intro x hx
  simp at hx
  rcases hx with rfl | rfl
  · exact (fine_dI (n := 6) (fun p hp => by have := ok.cb p hp; omega) ok.c6).mono (by omega) (by omega)
  · refine (fine_tup (k := 2) (B := 500) (n := 10) ?_ (by rw [List.length_map]; exact ok.g10)).mono (by omega) (by omega)
    intro d hd
    obtain ⟨g, hg, rfl⟩ := List.mem_map.mp hd
    exact fine_grp ok hg
theorem hu70 {k : Nat} {A : Around} (hr : Room k A) : A.units + 70 < cLine := by have := hr.un; omega
theorem ty_sqL {K : PySem.W.Frag} {H : Hp} {a : Addr} {xs : List V} (h : SqL K H a xs) : TyX K H (.ref a) (.type "list") := by
  rcases h with (h | ⟨o, h⟩) | ⟨o, its, n, h, hc, _⟩
  · exact .base (.lst h)
  · exact .base (.frz h)
  · exact .kList h hc
theorem FnOk.none {P : Program} {w : World} {K : PySem.W.Frag} {mg : Str → Option Value} {base : Heap} {k : Nat} {f : Addr} {fd : FuncData} {ps : List Str} : FnOk P w K mg base CX0 k f fd ps (fun _ _ _ _ => False) :=
  ⟨fun _ _ _ _ h => h.elim, fun _ _ _ _ _ _ _ _ _ _ _ _ _ h => h.elim⟩
end Pv

namespace Pv
open PySem PySem.Spec PyProof.Rows L2
/-! a comprehension whose elements only make new objects -/
def LcP {α : Type} (H1 : Hp) (D : Addr) (zs : List α) (F : α → Option V) (i : Nat) (H : Hp) : Prop := Same H1 H ∧ H D = some (.lst ((zs.take i).filterMap F))
section
variable {α : Type} {H1 H H' : Hp} {D : Addr} {zs : List α} {F : α → Option V} {i : Nat} {x : α} {y : V}
theorem LcP.start (nD : H1 D = none) : LcP H1 D zs F 0 (upd H1 D (.lst [])) := ⟨sameNew nD, by rw [upd_same]; rfl⟩
theorem LcP.yes (h : LcP H1 D zs F i H) (nD : H1 D = none) (s : Same H H') (hx : zs[i]? = some x) (hF : F x = some y) (hi : i ≤ 1000000) : ∃ acc, H' D = some (.lst acc) ∧ acc.length < sizeLine ∧ LcP H1 D zs F (i + 1) (upd H' D (.lst (acc ++ [y]))) := by
  refine ⟨_, s _ _ h.2, ?_, samePut (h.1.trans s) nD, ?_⟩
  · have h1 := List.length_filterMap_le F (zs.take i)
    have h2 := List.length_take_le i zs
    exact small (by omega)
  · rw [upd_same, take_snoc hx, List.filterMap_append]
    simp [hF]
theorem LcP.no (h : LcP H1 D zs F i H) (s : Same H H') (hx : zs[i]? = some x) (hF : F x = none) : LcP H1 D zs F (i + 1) H' := by
  refine ⟨h.1.trans s, ?_⟩
  rw [s _ _ h.2, take_snoc hx, List.filterMap_append]
  simp [hF]
theorem LcP.done (h : LcP H1 D zs F i H) (hi : zs.length ≤ i) : H D = some (.lst (zs.filterMap F)) := by have := h.2; rwa [List.take_of_length_le hi] at this
end
theorem fm_map {α : Type} (f : α → V) (zs : List α) : zs.filterMap (fun x => some (f x)) = zs.map f := by
  induction zs with
  | nil => rfl
  | cons z zs ih => simp
theorem fm_filter {α : Type} (p : α → Bool) (f : α → V) (zs : List α) : zs.filterMap (fun x => if p x = true then some (f x) else none) = (zs.filter p).map f := by
  induction zs with
  | nil => rfl
  | cons z zs ih => by_cases h : p z = true <;> simp [h, ih]
def Rl {β : Type} (R : V → β → Prop) (vs : List V) (rs : List β) : Prop := vs.length = rs.length ∧ ∀ (j : Nat) (v : V) (r : β), vs[j]? = some v → rs[j]? = some r → R v r
section
variable {β : Type} {R R' : V → β → Prop} {vs : List V} {rs : List β}
theorem Rl.nil : Rl R [] [] := ⟨rfl, fun j v r h => by simp at h⟩
theorem Rl.mono (h : Rl R vs rs) (f : ∀ v r, R v r → R' v r) : Rl R' vs rs := ⟨h.1, fun j v r h1 h2 => f _ _ (h.2 j v r h1 h2)⟩
theorem Rl.snoc {v : V} {r : β} (h : Rl R vs rs) (hv : R v r) : Rl R (vs ++ [v]) (rs ++ [r]) := by
  refine ⟨by simp [h.1], fun j v' r' h1 h2 => ?_⟩
  by_cases hj : j < vs.length
  · rw [List.getElem?_append_left hj] at h1
    rw [List.getElem?_append_left (by rw [← h.1]; exact hj)] at h2
    exact h.2 j v' r' h1 h2
  · rw [List.getElem?_append_right (by omega)] at h1
    rw [List.getElem?_append_right (by rw [← h.1]; omega)] at h2
    have e : j - vs.length = 0 := by have := (List.getElem?_eq_some_iff.mp h1).1; simp at this; omega
    rw [e] at h1
    rw [← h.1, e] at h2
    simp at h1 h2
    rw [← h1, ← h2]; exact hv
theorem Rl.at {j : Nat} {v : V} (h : Rl R vs rs) (hv : vs[j]? = some v) : ∃ r, rs[j]? = some r ∧ R v r := by
  have hj : j < rs.length := by rw [← h.1]; exact (List.getElem?_eq_some_iff.mp hv).1
  exact ⟨rs[j], List.getElem?_eq_getElem hj, h.2 j v _ hv (List.getElem?_eq_getElem hj)⟩
end
theorem sqS {K : PySem.W.Frag} {H H' : Hp} {a : Addr} {xs : List V} (s : Same H H') (h : SqT K H a xs) : SqT K H' a xs := (TupK.of s).sq h
theorem atS {xs : List Int} {j : Nat} (h : j < xs.length) : (xs.map V.int)[j]? = some (.int xs[j]) := by rw [List.getElem?_map, List.getElem?_eq_getElem h]; rfl
section
variable {X : Cx}
def rEqNilT (K : PySem.W.Frag) : R2 := fun x y H Q => ∃ (a b : Addr) (xs : List V), x = .ref a ∧ y = .ref b ∧ SqT K H a xs ∧ SqT K H b [] ∧ Q (.bl xs.isEmpty) H
theorem op_eqNilT (hu : X.A.units < cLine) : OpR X (compareOp .Eq) (rEqNilT X.K) := by
  intro pins s σ H x y v u Q I rx ry h
  obtain ⟨a, b, xs, rfl, rfl, ha, hb, q⟩ := h
  cases rx
  cases ry
  obtain ⟨its, r1, p1, z1⟩ := I.tuple ha
  obtain ⟨its2, r2, p2, z2⟩ := I.tuple hb
  cases r2
  have hl := r1.length
  have key := SeqAt.RcAt.tuples (A := X.A) (e := fun _ => true) (show s.heap.IsTuple a its.toArray from p1) (show s.heap.IsTuple b ([] : List Value).toArray from p2) hu (fun j _ h2 => absurd h2 (Nat.not_lt_zero _)) X.prog X.w
  have e : ((List.range (min its.toArray.size ([] : List Value).toArray.size)).all (fun _ => true) && its.toArray.size == ([] : List Value).toArray.size) = xs.isEmpty := by
    rw [List.size_toArray, ← hl]
    cases xs <;> simp
  rw [e] at key
  exact key _ _ ⟨.bl _, H, I, rfl, q⟩
end
end Pv

namespace Pv
open PySem PySem.Spec PyProof.Rows L2
/-! repr of any such value -/
theorem call_reprA {X : Cx} (hg : X.A.guards = some []) (hu : X.A.units + 70 < cLine) : CallR X (.builtin "repr")
    (fun xs H Q => ∃ v d st r, xs = [v] ∧ Dq X.K st r H v d ∧ d.showable = true ∧ d.depth ≤ 60 ∧ d.shown.length ≤ sizeLine ∧ Q (.str d.shown) H) := by
  intro pins s σ H xs us Q I rv h
  obtain ⟨v, d, st, r, rfl, hd, h1, h3, h4, q⟩ := h
  by_cases hv : ∃ a, v = .ref a
  · obtain ⟨a, rfl⟩ := hv
    exact call_reprQ hg hu pins s σ H _ us Q I rv ⟨a, d, st, r, rfl, hd, h1, h3, h4, q⟩
  · obtain ⟨u, rfl, ru⟩ := vals1 rv
    cases hd with
    | non => cases ru; exact PySem.P.repr_of_none ⟨.str _, H, I.tok _, ⟨_, rfl⟩, q⟩
    | bl b => cases ru; cases b <;> exact PySem.P.repr_of_bool ⟨.str _, H, I.tok _, ⟨_, rfl⟩, q⟩
    | int i =>
      obtain ⟨t, rfl⟩ := ru
      exact PySem.P.repr_of_int (by simpa [PyData.showable] using h1) ⟨.str _, H, I.tok _, ⟨_, rfl⟩, q⟩
    | str x =>
      obtain ⟨t, rfl⟩ := ru
      exact PySem.P.repr_of_str ⟨.str _, H, I.tok _, ⟨_, rfl⟩, q⟩ h4
    | lst _ => exact absurd ⟨_, rfl⟩ hv
    | tup _ => exact absurd ⟨_, rfl⟩ hv
    | dct _ => exact absurd ⟨_, rfl⟩ hv
/-! written values -/
def tLit (K : PySem.W.Frag) (d : PyData) : TE := fun _ H Q => ∃ st r, (H st ≠ none ∧ H r ≠ none) ∧ ∀ H' v, Same H H' → Dq K st r H' v d → Q v H'
def tLits (K : PySem.W.Frag) (ds : List PyData) : TA := fun _ H Q => ∃ st r, (H st ≠ none ∧ H r ≠ none) ∧ ∀ H' vs, Same H H' → DqAll K st r H' vs ds → Q vs H'
theorem occ {H H' : Hp} {st r : Addr} (h : H st ≠ none ∧ H r ≠ none) (s : Same H H') : H' st ≠ none ∧ H' r ≠ none := by
  obtain ⟨h1, h2⟩ := h
  constructor
  · cases e : H st with
    | none => exact absurd e h1
    | some o => rw [s _ _ e]; simp
  · cases e : H r with
    | none => exact absurd e h2
    | some o => rw [s _ _ e]; simp
theorem occ_ne {H : Hp} {st r p : Addr} (h : H st ≠ none ∧ H r ≠ none) (np : H p = none) : p ≠ st ∧ p ≠ r := ⟨fun e => h.1 (e ▸ np), fun e => h.2 (e ▸ np)⟩
theorem DqAll.rep {K : PySem.W.Frag} {st r : Addr} {H : Hp} {vs : List V} {ds : List PyData} (h : DqAll K st r H vs ds) : ∀ k : Nat, DqAll K st r H (List.replicate k vs).flatten (List.replicate k ds).flatten
  | 0 => .nil
  | k + 1 => by
    rw [List.replicate_succ, List.replicate_succ, List.flatten_cons, List.flatten_cons]
    exact h.app (DqAll.rep h k)
section
variable {X : Cx} {e : Expr} {es : List Expr} {pos p1 p2 : Pos} {d : PyData} {ds : List PyData}
theorem pe_mono {t t' : TE} (h : PE X e t) (m : ∀ σ H Q, t' σ H Q → t σ H Q) : PE X e t' := ⟨fun pins s σ H Q I q => h.run pins s σ H Q I (m _ _ _ q)⟩
theorem pa_mono {t t' : TA} (h : PA X es t) (m : ∀ σ H Q, t' σ H Q → t σ H Q) : PA X es t' := ⟨fun pos pins s σ H Q I q => h.run pos pins s σ H Q I (m _ _ _ q)⟩
theorem lit_c {v : V} (h : PE X e (tC v)) (hd : ∀ st r H, Dq X.K st r H v d) : PE X e (tLit X.K d) := pe_mono h fun σ H Q ⟨st, r, _, q⟩ => q H v (Same.refl H) (hd st r H)
theorem lit_int {n : Int} (h : PE X e (tC (.int n))) : PE X e (tLit X.K (.int n)) := lit_c h fun _ _ _ => .int n
theorem lit_bl {b : Bool} (h : PE X e (tC (.bl b))) : PE X e (tLit X.K (.bool b)) := lit_c h fun _ _ _ => .bl b
theorem lit_str {x : Str} (h : PE X e (tC (.str x))) : PE X e (tLit X.K (.str x)) := lit_c h fun _ _ _ => .str x
theorem lit_non (h : PE X e (tC .non)) : PE X e (tLit X.K .none) := lit_c h fun _ _ _ => .non
theorem lit_pow {a b : Int} (h : PE X e (tOp (rI CPow fun i j => .int (i ^ j.toNat)) (tC (.int a)) (tC (.int b)))) (hc : CPow a b) : PE X e (tLit X.K (.int (a ^ b.toNat))) :=
  pe_mono h fun σ H Q ⟨st, r, _, q⟩ => ⟨a, b, rfl, rfl, hc, q H _ (Same.refl H) (.int _)⟩
theorem lit_add {e1 e2 : Expr} {a b : Int} (h1 : PE X e1 (tLit X.K (.int a))) (h2 : PE X e2 (tLit X.K (.int b))) : PE X (.BinOp e1 .Add e2 pos) (tLit X.K (.int (a + b))) :=
  pe_mono (pe_op op_add h1 h2) fun σ H Q ⟨st, r, oc, q⟩ => ⟨st, r, oc, fun H1 v1 s1 d1 => ⟨st, r, occ oc s1, fun H2 v2 s2 d2 => by
    cases d1; cases d2
    exact ⟨a, b, rfl, rfl, q H2 _ (s1.trans s2) (.int _)⟩⟩⟩
theorem lits_nil : PA X [] (tLits X.K []) := pa_mono pa_nil fun σ H Q ⟨st, r, _, q⟩ => q H [] (Same.refl H) .nil
theorem lits_cons (h : PE X e (tLit X.K d)) (hs : PA X es (tLits X.K ds)) (hq : starEach (e :: es) X.env = (false, eval e X.env) :: starEach es X.env := by rfl) : PA X (e :: es) (tLits X.K (d :: ds)) :=
  pa_mono (pa_cons h hs hq) fun σ H Q ⟨st, r, oc, q⟩ => ⟨st, r, oc, fun H1 v s1 d1 => ⟨st, r, occ oc s1, fun H2 vs s2 d2 => q H2 _ (s1.trans s2) (.cons (d1.lasts (.of s2)) d2)⟩⟩
theorem small6 {n : Nat} (h : n ≤ 1000000) : n ≤ sizeLine := Nat.le_of_lt (Nat.lt_of_le_of_lt h (by decide))
theorem lit_tup {k : Nat} (h : PA X es (tLits X.K ds)) (hl : ds.length ≤ 1000000) : PE X (.Tuple es k pos) (tLit X.K (.tuple ds)) :=
  pe_mono (pe_tup h) fun σ H Q ⟨st, r, oc, q⟩ => ⟨st, r, oc, fun H1 vs s1 d1 => ⟨by rw [DqAll.len d1]; exact small6 hl, fun p np => q _ _ (s1.trans (sameNew np)) (.tup (SqT.of upd_same) (d1.lasts (.of (sameNew np))))⟩⟩
theorem lit_lst (h : PA X es (tLits X.K ds)) (hl : ds.length ≤ 1000000) : PE X (.List es pos) (tLit X.K (.list ds)) :=
  pe_mono (pe_lstS h) fun σ H Q ⟨st, r, oc, q⟩ => ⟨st, r, oc, fun H1 vs s1 d1 => ⟨by rw [DqAll.len d1]; exact small6 hl, fun p np ns => q _ _ (s1.trans (sameNew np)) (.lst upd_same (occ_ne (occ oc s1) np).1 (occ_ne (occ oc s1) np).2 ns (d1.lasts (.of (sameNew np))))⟩⟩
theorem lit_dict : PE X (.Dict [] [] pos) (tLit X.K (.dict [])) :=
  pe_mono pe_dnewK fun σ H Q ⟨st, r, oc, q⟩ => fun p np => q _ _ (sameNew np) (.dct (kvs := []) upd_same)
theorem lit_rep {e2 : Expr} {n : Int} (k : Nat) (h : PE X e (tLit X.K (.tuple ds))) (h2 : PE X e2 (tC (.int n))) (hk : n = (k : Nat)) (h1 : k ≠ 1) (hne : ds ≠ []) (hk2 : k ≤ 1000) (hl : ds.length ≤ 1000) :
    PE X (.BinOp e .Mult e2 pos) (tLit X.K (.tuple (List.replicate k ds).flatten)) :=
  pe_mono (pe_op op_repA h h2) fun σ H Q ⟨st, r, oc, q⟩ => ⟨st, r, oc, fun H1 v s1 d1 => by
    cases d1 with
    | @tup a xs _ hT ha =>
      have hx := DqAll.len ha
      refine ⟨a, k, xs, rfl, by rw [hk], hT, ?_, hk2, by omega, fun z => absurd z h1, fun _ p np => q _ _ (s1.trans (sameNew np)) (.tup (SqT.of upd_same) ((ha.rep k).lasts (.of (sameNew np))))⟩
      intro z
      subst z
      exact hne (List.eq_nil_of_length_eq_zero (by simpa using hx.symm))⟩
end
/-- a list and a written list behind it -/
theorem cat_lits {K : PySem.W.Frag} {st r L : Addr} {σ : L2.St} {H1 : Hp} {ds es : List PyData} {Q : VK} {vs : List V} (e1 : H1 L = some (.lst vs)) (h1 : DqAll K st r H1 vs ds) (hoc : H1 st ≠ none ∧ H1 r ≠ none) (hlen : ds.length + es.length ≤ 1000000)
    (hq : ∀ H' L' vs', Same H1 H' → H' L' = some (.lst vs') → L' ≠ st → L' ≠ r → DqAll K st r H' vs' (ds ++ es) → Q (.ref L') H') : tLst (tLits K es) σ H1 (fun y H2 => rCat (.ref L) y H2 Q) := by
  refine ⟨st, r, hoc, fun H2 v2 s2 h2 => ⟨by rw [DqAll.len h2]; exact small6 (by omega), fun M nM => ?_⟩⟩
  refine ⟨L, M, vs, v2, rfl, rfl, upNew nM (s2 _ _ e1), upd_same, by rw [DqAll.len h1, DqAll.len h2]; exact small6 (by omega), fun N nN => ?_⟩
  have sM := sameNew (o := .lst v2) nM
  have sN := sameNew (o := .lst (vs ++ v2)) nN
  have s1N := (s2.trans sM).trans sN
  have hN := occ_ne (occ (occ hoc s2) sM) nN
  exact hq _ N _ s1N upd_same hN.1 hN.2 ((h1.lasts (.of s1N)).app (h2.lasts (.of (sM.trans sN))))
/-! how large, by looking -/
mutual
def fitB (M L : Nat) : PyData → Bool
  | .none => true
  | .bool _ => true
  | .int i => decide (i.natAbs ≤ M)
  | .str x => decide ((reprText x).length ≤ L)
  | .list xs => fitAllB M L xs
  | .tuple xs => fitAllB M L xs
  | .dict kvs => decide ((PyData.shown (.dict kvs)).length ≤ 40) && PyData.showable (.dict kvs)
def fitAllB (M L : Nat) : List PyData → Bool
  | [] => true
  | x :: xs => fitB M L x && fitAllB M L xs
end
end Pv

namespace Pv
open PySem PySem.Spec PyProof.Rows L2
section
variable {K : PySem.W.Frag} {H : Hp} {a b : Addr} {xs ys : List V} {Q : VK}
/-! slices and sums of tuples, whichever object comes back -/
theorem take_eq (hP : SqT K H a xs) (n : Nat) (h : ∀ (H' : Hp) (b : Addr), Same H H' → SqT K H' b (xs.take n) → Q (.ref b) H') : rSlA K (.ref a) none (some (n : Int)) H Q := by
  have hcut : cutV xs none (some (n : Int)) = xs.take n := cut_to _ n
  refine ⟨a, _, rfl, hP, fun hw => ?_, fun _ p np => ?_⟩
  · refine h H a (Same.refl _) ?_
    have e : xs.take n = xs := by
      rw [← hcut]
      unfold cutV
      rw [hw.1, hw.2, List.drop_zero, Nat.sub_zero, List.take_length]
    rw [e]; exact hP
  · refine h _ p (sameNew np) (SqT.of ?_)
    rw [upd_same, hcut]
theorem cut_tail (xs : List V) (n : Nat) : cutV xs (some (n : Int)) none = xs.drop n := by
  unfold cutV
  rw [HT.sIx_nat, HT.sIx_none]
  by_cases h : n ≤ xs.length
  · rw [Nat.min_eq_left h, List.take_of_length_le (by rw [List.length_drop]; exact Nat.le_refl _)]
  · rw [Nat.min_eq_right (by omega), List.drop_eq_nil_of_le (Nat.le_refl _), List.drop_eq_nil_of_le (by omega)]; simp
theorem drop_eq (hP : SqT K H a xs) (n : Nat) (h : ∀ (H' : Hp) (b : Addr), Same H H' → SqT K H' b (xs.drop n) → Q (.ref b) H') : rSlA K (.ref a) (some (n : Int)) none H Q := by
  have hcut := cut_tail xs n
  refine ⟨a, _, rfl, hP, fun hw => ?_, fun _ p np => ?_⟩
  · refine h H a (Same.refl _) ?_
    have e : xs.drop n = xs := by
      rw [← hcut]
      unfold cutV
      rw [hw.1, hw.2, List.drop_zero, Nat.sub_zero, List.take_length]
    rw [e]; exact hP
  · refine h _ p (sameNew np) (SqT.of ?_)
    rw [upd_same, hcut]
theorem cat_eq (ha : SqT K H a xs) (hb : SqT K H b ys) (hz : xs.length + ys.length ≤ sizeLine) (h : ∀ (H' : Hp) (p : Addr), Same H H' → SqT K H' p (xs ++ ys) → Q (.ref p) H') : rCatA K (.ref a) (.ref b) H Q := by
  refine ⟨a, b, xs, ys, rfl, rfl, ha, hb, hz, fun e => ?_, fun _ e => ?_, fun _ _ p np => ?_⟩
  · subst e; exact h H b (Same.refl _) (by simpa using hb)
  · subst e; exact h H a (Same.refl _) (by simpa using ha)
  · exact h _ p (sameNew np) (SqT.of upd_same)
end
/-! the greatest of a tuple of ints -/
def rMaxT (K : PySem.W.Frag) : RC := fun xs H Q => ∃ (a : Addr) (ns : List Int), xs = [.ref a] ∧ SqT K H a (ns.map V.int) ∧ 0 < ns.length ∧ ∀ m, m ∈ ns → (∀ y ∈ ns, y ≤ m) → Q (.int m) H
theorem call_maxT {X : Cx} (hc : X.calm = true) : CallR X (.builtin "max") (rMaxT X.K) := by
  intro pins s σ H xs us Q I r h
  obtain ⟨a, ns, rfl, hT, hne, q⟩ := h
  obtain ⟨u, rfl, rfl⟩ := vals1 r
  obtain ⟨its, rv, ht, hz⟩ := I.tuple hT
  have hi : IntsAre its ns := rv.ints
  obtain ⟨ys, e⟩ := hi.allInts.items
  have hn : numsOf (intItems ys).toList = ns := by rw [← e]; exact hi.numsOf
  rw [nums_intItems] at hn
  rw [e] at ht
  subst hn
  have hsz : 0 < ys.size := by simpa using hne
  have ht' : s.heap.IsTuple a (intItems ys) := ht
  have hlt : a < s.heap.objs.size := by obtain ⟨_, z, _⟩ := ht; exact Heap.lt_size z
  refine call_max_walk (wpAny_pyIter_tuple ht' ?_)
  refine ⟨_, _, _, _, _, _, _, rfl, Walks.tuple (A := X.A.in1) (I.ok.hd hc) _ a (Nat.ne_of_lt hlt) (intItems ys), ⟨⟨_, Heap.get?_push_size _ rfl, rfl, rfl⟩, ht'.push _⟩, ?_, by simpa [intItems] using hsz, CmpOf.ints_gt (numAt ys) (fun _ _ => intItems_at), ?_⟩
  · intro b hb
    show b < (s.heap.push _).objs.size
    rw [Heap.size_push]
    simp only [List.mem_cons, List.not_mem_nil, or_false] at hb
    rcases hb with rfl | rfl
    · exact Nat.lt_succ_self _
    · exact Nat.lt_succ_of_lt hlt
  · intro v h' tk hP hk
    have hP' : (intItems ys)[argBest (fun i j => decide (numAt ys i > numAt ys j)) (ys.size - 1)]? = some v := by simpa [intItems] using hP
    obtain ⟨t, rfl⟩ := intItems_at hP'
    obtain ⟨h1, h2⟩ := argBest_gt (numAt ys) (ys.size - 1)
    refine ⟨.int _, H, I.kept (t' := tk) (h' := h') ?_, ⟨_, rfl⟩, q _ ?_ ?_⟩
    · intro b o eb
      refine hk b o (fun hm => ?_) (Heap.get?_push_of_some _ eb)
      exact absurd (Heap.lt_size eb) ((List.mem_singleton.mp hm) ▸ Nat.lt_irrefl _)
    · rw [numAt_eq]; exact PySem.getD_mem (by rw [List.length_map, Array.length_toList]; omega)
    · intro y hy
      obtain ⟨j, hj, rfl⟩ := mem_getD hy
      rw [List.length_map, Array.length_toList] at hj
      rw [← numAt_eq]; exact h2 j (by omega)
end Pv

namespace Pv
open PySem PySem.Spec PyProof.Rows L2
section
variable {X : Cx} {e : Expr}
theorem lit_neg {n : Int} (h : PE X e (tUn (rU fun i => .int (-i)) (tC (.int n)))) : PE X e (tLit X.K (.int (-n))) :=
  pe_mono h fun σ H Q ⟨st, r, _, q⟩ => ⟨n, rfl, q H _ (Same.refl H) (.int _)⟩
theorem lit_a1 (h : PE X e (tDisp [(tC (.str "a"), tC (.int 1))])) : PE X e (tLit X.K (.dict [(.str "a", .int 1)])) :=
  pe_mono h fun σ H Q ⟨st, r, oc, q⟩ => fun p np => ⟨upd_same, [(.inr "a", .int 1)], rfl, by decide, by
    rw [upd_upd]
    exact q _ _ (sameNew np) (.dct (kvs := [(.inr "a", 1)]) (by rw [upd_same]; rfl))⟩
end
section
variable {K : PySem.W.Frag} {H : Hp} {a b : Addr} {xs ys : List V} {Q : VK}
theorem sl_any (hP : SqT K H a xs) (lo hi : Option Int) (h : ∀ (H' : Hp) (b : Addr), Same H H' → SqT K H' b (cutV xs lo hi) → Q (.ref b) H') : rSlA K (.ref a) lo hi H Q := by
  refine ⟨a, _, rfl, hP, fun hw => ?_, fun _ p np => ?_⟩
  · refine h H a (Same.refl _) ?_
    have e : cutV xs lo hi = xs := by
      unfold cutV
      rw [hw.1, hw.2, List.drop_zero, Nat.sub_zero, List.take_length]
    rw [e]; exact hP
  · exact h _ p (sameNew np) (SqT.of upd_same)
theorem cut_ints (xs : List Int) (lo hi : Option Int) : ∃ zs : List Int, cutV (xs.map V.int) lo hi = zs.map V.int ∧ zs.length ≤ xs.length ∧ ∀ z ∈ zs, z ∈ xs := by
  unfold cutV
  generalize HT.sIx (xs.map V.int).length 0 lo = m
  generalize HT.sIx (xs.map V.int).length (xs.map V.int).length hi - m = n
  refine ⟨(xs.drop m).take n, by rw [List.map_take, List.map_drop], ?_, fun z hz => List.mem_of_mem_drop (List.mem_of_mem_take hz)⟩
  rw [List.length_take, List.length_drop]; omega
end
/-! a tuple of ints, of at most L and at most M in size -/
def IT (K : PySem.W.Frag) (H : Hp) (p : Addr) (L M : Nat) : Prop := ∃ xs : List Int, SqT K H p (xs.map V.int) ∧ xs.length ≤ L ∧ ∀ x ∈ xs, x.natAbs ≤ M
section
variable {K : PySem.W.Frag} {H H' : Hp} {a b : Addr} {L L' M M' : Nat} {Q : VK}
theorem IT.tk (h : IT K H a L M) (s : TupK H H') : IT K H' a L M := by obtain ⟨xs, h1, h2⟩ := h; exact ⟨xs, s.sq h1, h2⟩
theorem IT.same (h : IT K H a L M) (s : Same H H') : IT K H' a L M := h.tk (.of s)
theorem IT.mono (h : IT K H a L M) (h1 : L ≤ L') (h2 : M ≤ M') : IT K H a L' M' := by obtain ⟨xs, e, l, m⟩ := h; exact ⟨xs, e, by omega, fun x hx => by have := m x hx; omega⟩
theorem IT.cut (h : IT K H a L M) (lo hi : Option Int) (q : ∀ (H' : Hp) (b : Addr), Same H H' → IT K H' b L M → Q (.ref b) H') : rSlA K (.ref a) lo hi H Q := by
  obtain ⟨xs, e, l, m⟩ := h
  obtain ⟨zs, ez, lz, mz⟩ := cut_ints xs lo hi
  exact sl_any e lo hi fun H' b s hb => q H' b s ⟨zs, by rw [← ez]; exact hb, by omega, fun z hz => m z (mz z hz)⟩
theorem IT.cat (h : IT K H a L M) (h' : IT K H b L' M) (hs : L + L' ≤ 1000000) (q : ∀ (H' : Hp) (p : Addr), Same H H' → IT K H' p (L + L') M → Q (.ref p) H') : rCatA K (.ref a) (.ref b) H Q := by
  obtain ⟨xs, e, l, m⟩ := h
  obtain ⟨ys, e', l', m'⟩ := h'
  refine cat_eq e e' (by rw [List.length_map, List.length_map]; exact small6 (by omega)) fun H' p s hp => q H' p s ⟨xs ++ ys, by rw [List.map_append]; exact hp, by rw [List.length_append]; omega, fun z hz => ?_⟩
  rcases List.mem_append.mp hz with h | h
  · exact m z h
  · exact m' z h
theorem IT.dq {st r : Addr} (h : IT K H a L M) : ∃ xs : List Int, Dq K st r H (.ref a) (dI xs) ∧ xs.length ≤ L ∧ ∀ x ∈ xs, x.natAbs ≤ M := by
  obtain ⟨xs, e, l, m⟩ := h
  exact ⟨xs, .of_dp (to_ints xs) (dI_sq e), l, m⟩
end
/-! a comprehension whose elements are new objects: R tells what they show -/
def LcR {α β : Type} (R : Hp → V → β → Prop) (H1 : Hp) (D : Addr) (zs : List α) (F : α → Option β) (i : Nat) (H : Hp) : Prop := Same H1 H ∧ ∃ vs, H D = some (.lst vs) ∧ Rl (R H) vs ((zs.take i).filterMap F)
section
variable {α β : Type} {R : Hp → V → β → Prop} {H1 H H' : Hp} {D : Addr} {zs : List α} {F : α → Option β} {i : Nat} {x : α} {y : V} {b : β}
theorem LcR.start (nD : H1 D = none) : LcR R H1 D zs F 0 (upd H1 D (.lst [])) := ⟨sameNew nD, [], upd_same, by simpa using Rl.nil⟩
theorem LcR.yes (hR : ∀ H H' v b, TupK H H' → R H v b → R H' v b) (h : LcR R H1 D zs F i H) (nD : H1 D = none) (s : Same H H') (hx : zs[i]? = some x) (hF : F x = some b) (hy : R H' y b) (hi : i ≤ 1000000) : ∃ acc, H' D = some (.lst acc) ∧ acc.length < sizeLine ∧ LcR R H1 D zs F (i + 1) (upd H' D (.lst (acc ++ [y]))) := by
  obtain ⟨s1, vs, e, hv⟩ := h
  have e' := s _ _ e
  refine ⟨vs, e', ?_, samePut (s1.trans s) nD, vs ++ [y], upd_same, ?_⟩
  · have h1 := List.length_filterMap_le F (zs.take i)
    have h2 := List.length_take_le i zs
    rw [hv.1]
    exact small (by omega)
  · have tk : TupK H' (upd H' D (.lst (vs ++ [y]))) := TupK.put e'
    rw [take_snoc hx, List.filterMap_append]
    simp only [List.filterMap_cons, hF, List.filterMap_nil]
    exact Rl.snoc (hv.mono fun v r h => hR _ _ _ _ ((TupK.of s).trans tk) h) (hR _ _ _ _ tk hy)
theorem LcR.no (hR : ∀ H H' v b, TupK H H' → R H v b → R H' v b) (h : LcR R H1 D zs F i H) (s : Same H H') (hx : zs[i]? = some x) (hF : F x = none) : LcR R H1 D zs F (i + 1) H' := by
  obtain ⟨s1, vs, e, hv⟩ := h
  refine ⟨s1.trans s, vs, s _ _ e, ?_⟩
  rw [take_snoc hx, List.filterMap_append]
  simp only [List.filterMap_cons, hF, List.filterMap_nil, List.append_nil]
  exact hv.mono fun v r h => hR _ _ _ _ (.of s) h
theorem LcR.done (h : LcR R H1 D zs F i H) (hi : zs.length ≤ i) : ∃ vs, H D = some (.lst vs) ∧ Rl (R H) vs (zs.filterMap F) := by
  obtain ⟨_, vs, e, hv⟩ := h
  rw [List.take_of_length_le hi] at hv
  exact ⟨vs, e, hv⟩
end
end Pv

namespace Pv
open PySem PySem.Spec PyProof.Rows L2
/-! another drawing state: a list of the great numbers that are left, one number of the whole script, and how often it was mixed -/
structure DV (H : Hp) (st g : Addr) (t : Nat) : Prop where
  ex : ∃ (w : Int) (k : Nat) (gr : List Int), H st = some (.lst [.ref g, .int w, .int k]) ∧ H g = some (.lst (gr.map V.int)) ∧ 0 ≤ w ∧ w < 2305843009213693951 ∧ k ≤ t ∧ gr.length ≤ 63
  n1 : st ≠ g
section
variable {H H1 H2 : Hp} {st g p : Addr} {t : Nat} {o : HO}
theorem DV.tup (d : DV H st g t) (e : Ext st g H H1) : TupK H H1 := by
  obtain ⟨w, k, gr, hs, hg, _⟩ := d.ex
  intro b xs
  refine ⟨fun h => ?_, fun u h => ?_⟩
  · exact e _ _ h (ne_of h hs (by intro z; cases z)) (ne_of h hg (by intro z; cases z))
  · exact e _ _ h (ne_of h hs (by intro z; cases z)) (ne_of h hg (by intro z; cases z))
theorem DV.same (d : DV H st g t) (s : Same H H1) : DV H1 st g t := by
  obtain ⟨w, k, gr, hs, hg, q⟩ := d.ex
  exact ⟨⟨w, k, gr, s _ _ hs, s _ _ hg, q⟩, d.n1⟩
theorem DV.new (d : DV H st g t) (np : H p = none) : DV (upd H p o) st g t := d.same (sameNew np)
theorem DV.put (d : DV H st g t) (h1 : p ≠ st) (h2 : p ≠ g) : DV (upd H p o) st g t := by
  obtain ⟨w, k, gr, hs, hg, q⟩ := d.ex
  exact ⟨⟨w, k, gr, by rw [upd_ne h1.symm]; exact hs, by rw [upd_ne h2.symm]; exact hg, q⟩, d.n1⟩
theorem DV.off (d : DV H st g t) (np : H p = none) : p ≠ st ∧ p ≠ g := by
  obtain ⟨w, k, gr, hs, hg, q⟩ := d.ex
  exact ⟨(ne_of_none hs np).symm, (ne_of_none hg np).symm⟩
theorem DV.nil (d : DV H1 st g t) (x : Ext st g H H1) (np : H1 p = none) : H p = none := by
  obtain ⟨o1, o2⟩ := d.off np
  cases e : H p with
  | none => rfl
  | some o => have := x _ _ e o1 o2; rw [np] at this; cases this
theorem DV.lasts (d : DV H st g t) (x : Ext st g H H1) : Lasts st g H H1 := by
  obtain ⟨w, k, gr, hs, hg, _⟩ := d.ex
  refine ⟨d.tup x, fun a xs e n1 n2 => x _ _ e n1 n2, fun a kvs e => ?_⟩
  exact x _ _ e (ne_of e hs (by intro z; cases z)) (ne_of e hg (by intro z; cases z))
theorem DV.mono (d : DV H st g t) {t' : Nat} (h : t ≤ t') : DV H st g t' := by
  obtain ⟨w, k, gr, hs, hg, h1, h2, h3, h4⟩ := d.ex
  exact ⟨⟨w, k, gr, hs, hg, h1, h2, by omega, h4⟩, d.n1⟩
theorem DV.occ (d : DV H st g t) : H st ≠ none ∧ H g ≠ none := by
  obtain ⟨w, k, gr, hs, hg, _⟩ := d.ex
  exact ⟨by rw [hs]; simp, by rw [hg]; simp⟩
end
end Pv

namespace Pv
open PySem PySem.Spec PyProof.Rows L2
/-! data whose lists stand at none of the places X -/
mutual
inductive Dw (K : PySem.W.Frag) (X : Addr → Prop) (H : Hp) : V → PyData → Prop
  | non : Dw K X H .non .none
  | bl (b : Bool) : Dw K X H (.bl b) (.bool b)
  | int (i : Int) : Dw K X H (.int i) (.int i)
  | str (x : Str) : Dw K X H (.str x) (.str x)
  | lst {a : Addr} {xs : List V} {ds : List PyData} : H a = some (.lst xs) → ¬ X a → a ≠ sysModules → DwAll K X H xs ds → Dw K X H (.ref a) (.list ds)
  | tup {a : Addr} {xs : List V} {ds : List PyData} : SqT K H a xs → DwAll K X H xs ds → Dw K X H (.ref a) (.tuple ds)
  | dct {a : Addr} {kvs : List (Key × Int)} : H a = some (.dK (kvs.map fun p => (p.1, V.int p.2))) → Dw K X H (.ref a) (.dict (kvs.map fun p => (kD p.1, .int p.2)))
inductive DwAll (K : PySem.W.Frag) (X : Addr → Prop) (H : Hp) : List V → List PyData → Prop
  | nil : DwAll K X H [] []
  | cons {v : V} {vs : List V} {d : PyData} {ds : List PyData} : Dw K X H v d → DwAll K X H vs ds → DwAll K X H (v :: vs) (d :: ds)
end
structure LX (X : Addr → Prop) (H H' : Hp) : Prop where
  tk : TupK H H'
  ls : ∀ a xs, H a = some (.lst xs) → ¬ X a → H' a = some (.lst xs)
  dk : ∀ a kvs, H a = some (.dK kvs) → H' a = some (.dK kvs)
section
variable {K : PySem.W.Frag} {X X' : Addr → Prop} {H H' H2 : Hp} {st g : Addr} {t : Nat}
theorem LX.refl : LX X H H := ⟨.refl _, fun _ _ e _ => e, fun _ _ e => e⟩
theorem LX.of (s : Same H H') : LX X H H' := ⟨.of s, fun a xs e _ => s _ _ e, fun a kvs e => s _ _ e⟩
theorem LX.trans (a : LX X H H') (b : LX X H' H2) : LX X H H2 := ⟨a.tk.trans b.tk, fun p xs e n => b.ls _ _ (a.ls _ _ e n) n, fun p kvs e => b.dk _ _ (a.dk _ _ e)⟩
theorem LX.ext (d : DV H st g t) (x : Ext st g H H') (h1 : X st) (h2 : X g) : LX X H H' := by
  have l := d.lasts x
  exact ⟨l.tk, fun a xs e n => l.ls a xs e (fun z => n (z ▸ h1)) (fun z => n (z ▸ h2)), l.dk⟩
theorem LX.put {D : Addr} {ys : List V} {o : HO} (e : H D = some (.lst ys)) (h : X D) : LX X H (upd H D o) :=
  ⟨TupK.put e, fun a xs ea n => by rw [upd_ne (show a ≠ D from fun z => n (by rw [z]; exact h))]; exact ea, fun a kvs ea => by rw [upd_ne (ne_of ea e (by intro z; cases z))]; exact ea⟩
mutual
theorem Dw.lx (l : LX X H H') : ∀ {d : PyData} {v : V}, Dw K X H v d → Dw K X H' v d
  | .none, _, h => by cases h; exact .non
  | .bool _, _, h => by cases h; exact .bl _
  | .int _, _, h => by cases h; exact .int _
  | .str _, _, h => by cases h; exact .str _
  | .list _, _, h => by
    cases h with
    | lst e n1 n3 hd => exact .lst (l.ls _ _ e n1) n1 n3 (DwAll.lx l hd)
  | .tuple _, _, h => by
    cases h with
    | tup e hd => exact .tup (l.tk.sq e) (DwAll.lx l hd)
  | .dict _, _, h => by
    cases h with
    | dct e => exact .dct (l.dk _ _ e)
theorem DwAll.lx (l : LX X H H') : ∀ {ds : List PyData} {vs : List V}, DwAll K X H vs ds → DwAll K X H' vs ds
  | [], _, h => by cases h; exact .nil
  | _ :: _, _, h => by
    cases h with
    | cons h1 h2 => exact .cons (Dw.lx l h1) (DwAll.lx l h2)
end
mutual
theorem Dw.weak (l : ∀ a, X' a → X a) : ∀ {d : PyData} {v : V}, Dw K X H v d → Dw K X' H v d
  | .none, _, h => by cases h; exact .non
  | .bool _, _, h => by cases h; exact .bl _
  | .int _, _, h => by cases h; exact .int _
  | .str _, _, h => by cases h; exact .str _
  | .list _, _, h => by
    cases h with
    | lst e n1 n3 hd => exact .lst e (fun z => n1 (l _ z)) n3 (DwAll.weak l hd)
  | .tuple _, _, h => by
    cases h with
    | tup e hd => exact .tup e (DwAll.weak l hd)
  | .dict _, _, h => by
    cases h with
    | dct e => exact .dct e
theorem DwAll.weak (l : ∀ a, X' a → X a) : ∀ {ds : List PyData} {vs : List V}, DwAll K X H vs ds → DwAll K X' H vs ds
  | [], _, h => by cases h; exact .nil
  | _ :: _, _, h => by
    cases h with
    | cons h1 h2 => exact .cons (Dw.weak l h1) (DwAll.weak l h2)
end
mutual
theorem Dw.dq {r : Addr} (h1 : X st) (h2 : X r) : ∀ {d : PyData} {v : V}, Dw K X H v d → Dq K st r H v d
  | .none, _, h => by cases h; exact .non
  | .bool _, _, h => by cases h; exact .bl _
  | .int _, _, h => by cases h; exact .int _
  | .str _, _, h => by cases h; exact .str _
  | .list _, _, h => by
    cases h with
    | lst e n1 n3 hd => exact .lst e (fun z => n1 (z ▸ h1)) (fun z => n1 (z ▸ h2)) n3 (DwAll.dq h1 h2 hd)
  | .tuple _, _, h => by
    cases h with
    | tup e hd => exact .tup e (DwAll.dq h1 h2 hd)
  | .dict _, _, h => by
    cases h with
    | dct e => exact .dct e
theorem DwAll.dq {r : Addr} (h1 : X st) (h2 : X r) : ∀ {ds : List PyData} {vs : List V}, DwAll K X H vs ds → DqAll K st r H vs ds
  | [], _, h => by cases h; exact .nil
  | _ :: _, _, h => by
    cases h with
    | cons a b => exact .cons (Dw.dq h1 h2 a) (DwAll.dq h1 h2 b)
end
mutual
theorem Dw.of_dp : ∀ {d : PyData} {v : V}, tupOnly d = true → Dp K H v d → Dw K X H v d
  | .none, _, _, h => by cases h; exact .non
  | .bool _, _, _, h => by cases h; exact .bl _
  | .int _, _, _, h => by cases h; exact .int _
  | .str _, _, _, h => by cases h; exact .str _
  | .list _, _, t, _ => by simp [tupOnly] at t
  | .tuple _, _, t, h => by
    cases h with
    | tup e hd => exact .tup e (DwAll.of_dp (by simpa [tupOnly] using t) hd)
  | .dict _, _, t, _ => by simp [tupOnly] at t
theorem DwAll.of_dp : ∀ {ds : List PyData} {vs : List V}, tupOnlyAll ds = true → DpAll K H vs ds → DwAll K X H vs ds
  | [], _, _, h => by cases h; exact .nil
  | d :: ds, _, t, h => by
    have t' : tupOnly d = true ∧ tupOnlyAll ds = true := by simpa [tupOnlyAll] using t
    cases h with
    | cons h1 h2 => exact .cons (Dw.of_dp t'.1 h1) (DwAll.of_dp t'.2 h2)
end
theorem DwAll.len : ∀ {vs : List V} {ds : List PyData}, DwAll K X H vs ds → vs.length = ds.length
  | _, _, .nil => rfl
  | _, _, .cons _ t => by simp [DwAll.len t]
theorem DwAll.at : ∀ {vs : List V} {ds : List PyData} {i : Nat} {v : V}, DwAll K X H vs ds → vs[i]? = some v → ∃ d, ds[i]? = some d ∧ Dw K X H v d
  | _, _, _, _, .nil, e => by simp at e
  | _, _, 0, _, .cons h _, e => by simp at e; subst e; exact ⟨_, rfl, h⟩
  | _, _, i + 1, v, .cons _ t, e => by
    obtain ⟨d, h1, h2⟩ := DwAll.at (i := i) t (by simpa using e)
    exact ⟨d, by simpa using h1, h2⟩
theorem DwAll.app : ∀ {vs ws : List V} {ds es : List PyData}, DwAll K X H vs ds → DwAll K X H ws es → DwAll K X H (vs ++ ws) (ds ++ es)
  | _, _, _, _, .nil, h => h
  | _, _, _, _, .cons h t, h' => .cons h (DwAll.app t h')
theorem DwAll.snoc {vs : List V} {ds : List PyData} {v : V} {d : PyData} (h : DwAll K X H vs ds) (h' : Dw K X H v d) : DwAll K X H (vs ++ [v]) (ds ++ [d]) := h.app (.cons h' .nil)
end
/-- all that stands -/
def dom (H : Hp) (a : Addr) : Prop := H a ≠ none
theorem dom_same {H H' : Hp} (s : Same H H') {a : Addr} (h : dom H a) : dom H' a := by
  unfold dom at *
  cases e : H a with
  | none => exact absurd e h
  | some o => rw [s _ _ e]; simp
theorem dom_new {H H' : Hp} (s : Same H H') {p : Addr} (np : H' p = none) : ¬ dom H p := fun h => dom_same s h np
/-! written values -/
def tLw (K : PySem.W.Frag) (d : PyData) : TE := fun _ H Q => ∃ X : Addr → Prop, (∀ a, X a → dom H a) ∧ ∀ H' v, Same H H' → Dw K X H' v d → Q v H'
def tLws (K : PySem.W.Frag) (ds : List PyData) : TA := fun _ H Q => ∃ X : Addr → Prop, (∀ a, X a → dom H a) ∧ ∀ H' vs, Same H H' → DwAll K X H' vs ds → Q vs H'
section
variable {X : Cx} {e : Expr} {es : List Expr} {pos p1 p2 : Pos} {d : PyData} {ds : List PyData}
theorem lw_c {v : V} (h : PE X e (tC v)) (hd : ∀ Y H, Dw X.K Y H v d) : PE X e (tLw X.K d) := pe_mono h fun σ H Q ⟨Y, _, q⟩ => q H v (Same.refl H) (hd Y H)
theorem lw_int {n : Int} (h : PE X e (tC (.int n))) : PE X e (tLw X.K (.int n)) := lw_c h fun _ _ => .int n
theorem lw_bl {b : Bool} (h : PE X e (tC (.bl b))) : PE X e (tLw X.K (.bool b)) := lw_c h fun _ _ => .bl b
theorem lw_str {x : Str} (h : PE X e (tC (.str x))) : PE X e (tLw X.K (.str x)) := lw_c h fun _ _ => .str x
theorem lw_non (h : PE X e (tC .non)) : PE X e (tLw X.K .none) := lw_c h fun _ _ => .non
theorem lw_neg {n : Int} (h : PE X e (tUn (rU fun i => .int (-i)) (tC (.int n)))) : PE X e (tLw X.K (.int (-n))) :=
  pe_mono h fun σ H Q ⟨Y, _, q⟩ => ⟨n, rfl, q H _ (Same.refl H) (.int _)⟩
theorem lw_pow {a b : Int} (h : PE X e (tOp (rI CPow fun i j => .int (i ^ j.toNat)) (tC (.int a)) (tC (.int b)))) (hc : CPow a b) : PE X e (tLw X.K (.int (a ^ b.toNat))) :=
  pe_mono h fun σ H Q ⟨Y, _, q⟩ => ⟨a, b, rfl, rfl, hc, q H _ (Same.refl H) (.int _)⟩
theorem lw_add {e1 e2 : Expr} {a b : Int} (h1 : PE X e1 (tLw X.K (.int a))) (h2 : PE X e2 (tLw X.K (.int b))) : PE X (.BinOp e1 .Add e2 pos) (tLw X.K (.int (a + b))) :=
  pe_mono (pe_op op_add h1 h2) fun σ H Q ⟨Y, oc, q⟩ => ⟨Y, oc, fun H1 v1 s1 d1 => ⟨Y, fun a h => dom_same s1 (oc a h), fun H2 v2 s2 d2 => by
    cases d1; cases d2
    exact ⟨a, b, rfl, rfl, q H2 _ (s1.trans s2) (.int _)⟩⟩⟩
theorem lws_nil : PA X [] (tLws X.K []) := pa_mono pa_nil fun σ H Q ⟨Y, _, q⟩ => q H [] (Same.refl H) .nil
theorem lws_cons (h : PE X e (tLw X.K d)) (hs : PA X es (tLws X.K ds)) (hq : starEach (e :: es) X.env = (false, eval e X.env) :: starEach es X.env := by rfl) : PA X (e :: es) (tLws X.K (d :: ds)) :=
  pa_mono (pa_cons h hs hq) fun σ H Q ⟨Y, oc, q⟩ => ⟨Y, oc, fun H1 v s1 d1 => ⟨Y, fun a h => dom_same s1 (oc a h), fun H2 vs s2 d2 => q H2 _ (s1.trans s2) (.cons (d1.lx (.of s2)) d2)⟩⟩
theorem lw_tup {k : Nat} (h : PA X es (tLws X.K ds)) (hl : ds.length ≤ 1000000) : PE X (.Tuple es k pos) (tLw X.K (.tuple ds)) :=
  pe_mono (pe_tup h) fun σ H Q ⟨Y, oc, q⟩ => ⟨Y, oc, fun H1 vs s1 d1 => ⟨by rw [DwAll.len d1]; exact small6 hl, fun p np => q _ _ (s1.trans (sameNew np)) (.tup (SqT.of upd_same) (d1.lx (.of (sameNew np))))⟩⟩
theorem lw_lst (h : PA X es (tLws X.K ds)) (hl : ds.length ≤ 1000000) : PE X (.List es pos) (tLw X.K (.list ds)) :=
  pe_mono (pe_lstS h) fun σ H Q ⟨Y, oc, q⟩ => ⟨Y, oc, fun H1 vs s1 d1 => ⟨by rw [DwAll.len d1]; exact small6 hl, fun p np ns => q _ _ (s1.trans (sameNew np)) (.lst upd_same (fun h => dom_new s1 np (oc _ h)) ns (d1.lx (.of (sameNew np))))⟩⟩
theorem lw_dict : PE X (.Dict [] [] pos) (tLw X.K (.dict [])) :=
  pe_mono pe_dnewK fun σ H Q ⟨Y, oc, q⟩ => fun p np => q _ _ (sameNew np) (.dct (kvs := []) upd_same)
theorem lw_a1 (h : PE X e (tDisp [(tC (.str "a"), tC (.int 1))])) : PE X e (tLw X.K (.dict [(.str "a", .int 1)])) :=
  pe_mono h fun σ H Q ⟨Y, oc, q⟩ => fun p np => ⟨upd_same, [(.inr "a", .int 1)], rfl, by decide, by
    rw [upd_upd]
    exact q _ _ (sameNew np) (.dct (kvs := [(.inr "a", 1)]) (by rw [upd_same]; rfl))⟩
end
end Pv

namespace Pv
open PySem PySem.Spec PyProof.Rows L2
/-! how large data is -/
mutual
def fit (M : Nat) : PyData → Prop
  | .none => True
  | .bool _ => True
  | .int i => i.natAbs ≤ M
  | .str x => (reprText x).length ≤ 400
  | .list xs => fitAll M xs
  | .tuple xs => fitAll M xs
  | .dict kvs => (PyData.shown (.dict kvs)).length ≤ 40 ∧ PyData.showable (.dict kvs) = true
def fitAll (M : Nat) : List PyData → Prop
  | [] => True
  | x :: xs => fit M x ∧ fitAll M xs
end
mutual
def wt : PyData → Nat
  | .none => 40
  | .bool _ => 40
  | .int _ => 40
  | .str _ => 400
  | .list xs => wtAll xs + 3
  | .tuple xs => wtAll xs + 3
  | .dict _ => 40
def wtAll : List PyData → Nat
  | [] => 0
  | x :: xs => wt x + 2 + wtAll xs
end
theorem int_text {i : Int} {M : Nat} (h : i.natAbs ≤ M) (hM : M < 10 ^ 35) : (PyData.int i).showable = true ∧ (PyData.int i).shown.length ≤ 40 := by
  have h' : i.natAbs < 10 ^ 35 := by omega
  refine ⟨?_, ?_⟩
  · simp only [PyData.showable, decide_eq_true_eq]
    have : i.natAbs.log2 < 200 := by
      by_cases h0 : i.natAbs = 0
      · rw [h0]; decide
      · exact (Nat.log2_lt h0).mpr (Nat.lt_trans h' (by decide))
    omega
  · have e := int_text_length_le10 (k := 35) (by decide) h'
    show (Str.ofString (toString i)).length ≤ 40
    rw [PySem.ofString_length]
    omega
mutual
theorem fit_ok {M : Nat} (hM : M < 10 ^ 35) : ∀ {d : PyData}, fit M d → d.showable = true ∧ d.shown.length ≤ wt d
  | .none, _ => by simp only [PyData.showable, PyData.shown, wt]; decide
  | .bool b, _ => by cases b <;> (simp only [PyData.showable, PyData.shown, wt]; decide)
  | .int i, h => by
    have := int_text (i := i) (M := M) (by simpa only [fit] using h) hM
    simp only [wt]; exact this
  | .str x, h => by simp only [fit] at h; simp only [PyData.showable, PyData.shown, wt]; exact ⟨trivial, h⟩
  | .list xs, h => by
    obtain ⟨h1, h2⟩ := fitAll_ok hM (xs := xs) (by simpa only [fit] using h)
    simp only [PyData.showable, PyData.shown, wt]
    refine ⟨h1, ?_⟩
    have e := listText_len_le (PyData.shownAll xs)
    omega
  | .tuple xs, h => by
    obtain ⟨h1, h2⟩ := fitAll_ok hM (xs := xs) (by simpa only [fit] using h)
    simp only [PyData.showable, PyData.shown, wt]
    refine ⟨h1, ?_⟩
    have e := tupleText_len_le (PyData.shownAll xs)
    omega
  | .dict kvs, h => by simp only [fit] at h; simp only [wt]; exact ⟨h.2, h.1⟩
theorem fitAll_ok {M : Nat} (hM : M < 10 ^ 35) : ∀ {xs : List PyData}, fitAll M xs → PyData.showableAll xs = true ∧ ((PyData.shownAll xs).map (·.length)).sum + 2 * (PyData.shownAll xs).length ≤ wtAll xs
  | [], _ => by simp [PyData.showableAll, PyData.shownAll, wtAll]
  | x :: xs, h => by
    have h' : fit M x ∧ fitAll M xs := by simpa only [fitAll] using h
    obtain ⟨a1, a2⟩ := fit_ok hM h'.1
    obtain ⟨b1, b2⟩ := fitAll_ok hM h'.2
    refine ⟨by simp [PyData.showableAll, a1, b1], ?_⟩
    simp only [PyData.shownAll, List.map_cons, List.sum_cons, List.length_cons, wtAll]
    omega
end
mutual
theorem fit_mono {M M' : Nat} (h : M ≤ M') : ∀ {d : PyData}, fit M d → fit M' d
  | .none, _ => by simp [fit]
  | .bool _, _ => by simp [fit]
  | .int i, q => by simp only [fit] at *; omega
  | .str x, q => by simpa only [fit] using q
  | .list xs, q => by simp only [fit] at *; exact fitAll_mono h q
  | .tuple xs, q => by simp only [fit] at *; exact fitAll_mono h q
  | .dict _, q => by simpa only [fit] using q
theorem fitAll_mono {M M' : Nat} (h : M ≤ M') : ∀ {xs : List PyData}, fitAll M xs → fitAll M' xs
  | [], _ => by simp [fitAll]
  | x :: xs, q => by
    have q' : fit M x ∧ fitAll M xs := by simpa only [fitAll] using q
    simp only [fitAll]
    exact ⟨fit_mono h q'.1, fitAll_mono h q'.2⟩
end
theorem fitAll_iff {M : Nat} : ∀ {xs : List PyData}, fitAll M xs ↔ ∀ x ∈ xs, fit M x
  | [] => by simp [fitAll]
  | x :: xs => by simp [fitAll, fitAll_iff (xs := xs)]
theorem wtAll_app : ∀ (xs ys : List PyData), wtAll (xs ++ ys) = wtAll xs + wtAll ys
  | [], ys => by simp [wtAll]
  | x :: xs, ys => by simp only [List.cons_append, wtAll, wtAll_app xs ys]; omega
theorem wtAll_rev : ∀ xs : List PyData, wtAll xs.reverse = wtAll xs
  | [] => rfl
  | x :: xs => by rw [List.reverse_cons, wtAll_app, wtAll_rev xs]; simp only [wtAll]; omega
theorem wtAll_split (xs : List PyData) (n : Nat) : wtAll xs = wtAll (xs.take n) + wtAll (xs.drop n) := by rw [← wtAll_app, List.take_append_drop]
theorem wtAll_len : ∀ xs : List PyData, 2 * xs.length ≤ wtAll xs
  | [] => by simp [wtAll]
  | x :: xs => by have := wtAll_len xs; simp only [wtAll, List.length_cons]; omega
theorem depthAll_le {k : Nat} : ∀ {xs : List PyData}, PyData.depthAll xs ≤ k ↔ ∀ x ∈ xs, x.depth ≤ k
  | [] => by simp [PyData.depthAll]
  | x :: xs => by
    have := depthAll_le (k := k) (xs := xs)
    simp only [PyData.depthAll, List.mem_cons, forall_eq_or_imp, ← this]
    omega
structure Fit (M k W : Nat) (d : PyData) : Prop where
  ok : fit M d
  dp : d.depth ≤ k
  wt : wt d ≤ W
theorem Fit.mono {M M' k k' W W' : Nat} {d : PyData} (h : Fit M k W d) (h1 : M ≤ M') (h2 : k ≤ k') (h3 : W ≤ W') : Fit M' k' W' d := ⟨fit_mono h1 h.ok, Nat.le_trans h.dp h2, Nat.le_trans h.wt h3⟩
theorem Fit.at {M k W : Nat} {ds : List PyData} {d : PyData} (h : Fit M k W (.tuple ds)) (hm : d ∈ ds) : Fit M (k - 1) W d ∧ d.depth + 1 ≤ (PyData.tuple ds).depth ∧ 1 ≤ k := by
  have h1 : fitAll M ds := by have := h.ok; simpa only [fit] using this
  have h2 := h.dp
  simp only [PyData.depth] at h2
  have h3 : ∀ x ∈ ds, x.depth ≤ PyData.depthAll ds := depthAll_le.mp (Nat.le_refl _)
  have h4 := h3 d hm
  refine ⟨⟨fitAll_iff.mp h1 d hm, by omega, ?_⟩, by simp only [PyData.depth]; omega, by omega⟩
  obtain ⟨a, b, rfl⟩ := List.append_of_mem hm
  have h5 := h.wt
  simp only [Pv.wt, wtAll_app, wtAll] at h5
  omega
/-- a tuple made of parts -/
theorem Fit.tup {M k W : Nat} {ds : List PyData} (h1 : ∀ d ∈ ds, fit M d ∧ d.depth + 1 ≤ k) (h0 : 1 ≤ k) (h2 : wtAll ds + 3 ≤ W) : Fit M k W (.tuple ds) := by
  refine ⟨by simp only [fit]; exact fitAll_iff.mpr fun d hd => (h1 d hd).1, ?_, by simpa only [Pv.wt] using h2⟩
  simp only [PyData.depth]
  have : PyData.depthAll ds ≤ k - 1 := depthAll_le.mpr fun d hd => by have := (h1 d hd).2; omega
  omega
theorem Fit.lst {M k W : Nat} {ds : List PyData} (h1 : ∀ d ∈ ds, fit M d ∧ d.depth + 1 ≤ k) (h0 : 1 ≤ k) (h2 : wtAll ds + 3 ≤ W) : Fit M k W (.list ds) := by
  refine ⟨by simp only [fit]; exact fitAll_iff.mpr fun d hd => (h1 d hd).1, ?_, by simpa only [Pv.wt] using h2⟩
  simp only [PyData.depth]
  have : PyData.depthAll ds ≤ k - 1 := depthAll_le.mpr fun d hd => by have := (h1 d hd).2; omega
  omega
theorem Fit.parts {M k W : Nat} {ds : List PyData} (h : Fit M k W (.tuple ds)) : (∀ d ∈ ds, fit M d ∧ d.depth + 1 ≤ k) ∧ 1 ≤ k ∧ wtAll ds + 3 ≤ W := by
  have h0 : 1 ≤ k := by have := h.dp; simp only [PyData.depth] at this; omega
  refine ⟨fun d hd => ⟨(h.at hd).1.ok, ?_⟩, h0, by have := h.wt; simpa only [Pv.wt] using this⟩
  have := (h.at hd).1.dp
  omega
theorem Fit.int {M k W : Nat} {i : Int} (h : i.natAbs ≤ M) (hW : 40 ≤ W) : Fit M k W (.int i) := ⟨by simpa only [fit] using h, by simp [PyData.depth], by simpa only [Pv.wt] using hW⟩
/-- what is shown together -/
theorem fit_pair {M : Nat} (hM : M < 10 ^ 35) {k W : Nat} {a b : PyData} (ha : Fit M k W a) (hb : Fit M k W b) (hk : k ≤ 50) (hW : W ≤ 1000000) :
    (PyData.list [a, b]).showable = true ∧ (PyData.list [a, b]).depth ≤ 60 ∧ (PyData.list [a, b]).shown.length ≤ sizeLine := by
  have h : Fit M (k + 1) (2 * W + 10) (.list [a, b]) := by
    refine Fit.lst ?_ (by omega) ?_
    · intro d hd
      rcases List.mem_cons.mp hd with rfl | hd
      · exact ⟨ha.ok, by have := ha.dp; omega⟩
      · rcases List.mem_cons.mp hd with rfl | hd
        · exact ⟨hb.ok, by have := hb.dp; omega⟩
        · cases hd
    · have h1 := ha.wt
      have h2 := hb.wt
      simp only [wtAll]; omega
  obtain ⟨s1, s2⟩ := fit_ok hM h.ok
  refine ⟨s1, Nat.le_trans h.dp (by omega), Nat.le_trans s2 (Nat.le_trans h.wt ?_)⟩
  rw [sizeLine_eq]; omega
/-! the data of instances and assignments -/
theorem fit_dI {M : Nat} {ns : List Int} (h : ∀ i ∈ ns, i.natAbs ≤ M) : Fit M 1 (ns.length * 42 + 3) (dI ns) := by
  have hw : wtAll (ns.map PyData.int) = ns.length * 42 := by
    clear h
    induction ns with
    | nil => rfl
    | cons a ns ih => simp only [List.map_cons, wtAll, wt, ih, List.length_cons]; omega
  refine Fit.tup ?_ (by decide) (by rw [hw]; exact Nat.le_refl _)
  intro d hd
  obtain ⟨i, hi, rfl⟩ := List.mem_map.mp hd
  exact ⟨by simpa only [fit] using h i hi, by simp [PyData.depth]⟩
theorem wtAll_le {W : Nat} : ∀ {ds : List PyData}, (∀ d ∈ ds, wt d ≤ W) → wtAll ds ≤ ds.length * (W + 2)
  | [], _ => by simp [wtAll]
  | d :: ds, h => by
    have h1 := h d (by simp)
    have h2 := wtAll_le (W := W) (ds := ds) (fun x hx => h x (by simp [hx]))
    simp only [wtAll, List.length_cons, Nat.succ_mul]; omega
theorem fit_dAsg {M : Nat} {rows : List (List Int)} (h : ∀ row ∈ rows, row.length ≤ 10 ∧ ∀ i ∈ row, i.natAbs ≤ M) (hr : rows.length ≤ 20) : Fit M 2 10000 (dAsg rows) := by
  unfold dAsg
  refine Fit.tup ?_ (by decide) ?_
  · intro d hd
    obtain ⟨row, hrow, rfl⟩ := List.mem_map.mp hd
    have := fit_dI (M := M) (h row hrow).2
    exact ⟨this.ok, by have := this.dp; omega⟩
  · have := wtAll_le (W := 430) (ds := rows.map dI) (by
      intro d hd
      obtain ⟨row, hrow, rfl⟩ := List.mem_map.mp hd
      have := (fit_dI (M := M) (h row hrow).2).wt
      have := (h row hrow).1
      omega)
    rw [List.length_map] at this
    omega
theorem fit_dInst {M : Nat} {cs : List Int} {gs : List Gp} (hc : cs.length ≤ 10 ∧ ∀ i ∈ cs, i.natAbs ≤ M) (hg : gs.length ≤ 20) (h : ∀ g ∈ gs, g.1.length ≤ 10 ∧ (∀ i ∈ g.1, i.natAbs ≤ M) ∧ g.2.natAbs ≤ M) : Fit M 5 20000 (dInst cs gs) := by
  have f1 := fit_dI hc.2
  have f2 : ∀ g ∈ gs, Fit M 2 600 (dGrp g) := by
    intro g hgm
    have f3 := fit_dI (M := M) (h g hgm).2.1
    have hl := (h g hgm).1
    unfold dGrp
    refine Fit.tup ?_ (by decide) ?_
    · intro d hd
      rcases List.mem_cons.mp hd with rfl | hd
      · exact ⟨f3.ok, by have := f3.dp; omega⟩
      · rcases List.mem_cons.mp hd with rfl | hd
        · exact ⟨by simpa only [fit] using (h g hgm).2.2, by simp [PyData.depth]⟩
        · cases hd
    · have := f3.wt
      simp only [wtAll, Pv.wt]; omega
  have f4 : Fit M 3 13000 (.tuple (gs.map dGrp)) := by
    refine Fit.tup ?_ (by decide) ?_
    · intro d hd
      obtain ⟨g, hgm, rfl⟩ := List.mem_map.mp hd
      exact ⟨(f2 g hgm).ok, by have := (f2 g hgm).dp; omega⟩
    · have := wtAll_le (W := 600) (ds := gs.map dGrp) (by
        intro d hd
        obtain ⟨g, hgm, rfl⟩ := List.mem_map.mp hd
        exact (f2 g hgm).wt)
      rw [List.length_map] at this
      omega
  unfold dInst
  refine Fit.tup ?_ (by decide) ?_
  · intro d hd
    rcases List.mem_cons.mp hd with rfl | hd
    · exact ⟨f1.ok, by have := f1.dp; omega⟩
    · rcases List.mem_cons.mp hd with rfl | hd
      · exact ⟨f4.ok, by have := f4.dp; omega⟩
      · cases hd
  · have h1 := f1.wt
    have h2 := f4.wt
    have := hc.1
    simp only [wtAll]; omega
end Pv

namespace Pv
open PySem PySem.Spec PyProof.Rows L2
/-! errors of the program's own classes -/
abbrev VEbm : List Value := [.type "ValueError", .type "Exception", .type "BaseException", .type "object"]
theorem pmk_own0 {X : Cx} {C : Addr} {bmB : List Value} {B newId initId : String} {x : Str} {p pos : Pos} (F : ExcBaseFacts B newId initId bmB) (q : PySem.W.excIn X.K C bmB newId = true) (gC : X.mg x = some (.ref C))
    (kC : PySem.W.keepIn X.K (.ref C) = true) (r : Raises X (.ref C)) (hg : Gl X x) (hdb : (x == ("__debug__" : Str)) = false := by decide) :
    PMk X (.Call (.Name x p) [] [] pos) (fun _ H Q => Q (.ref C) none H) := by
  intro pins s σ H Q I h
  refine wpAny_Call_Name_kw (ld_glob I hg gC ?_ hdb)
  refine PySem.W.callWith_K0 I.kIn kC ?_
  obtain ⟨bm, N, nm, qn, bs, hdct, sn, sub, ab, col, dd, k0, k1, k2, k3, k5, mN, hC, hN, hni, T⟩ := exc_obj I.kIn q
  show wpAny _ _ (call (.ref C) []) _ _ _
  refine wpAny_call_exc_subT F T hC hN hni (fun h' e hm => ?_) (Nat.zero_le _)
  exact mk_of I hm r h (I.hok.gone hm.new)
/-- what is asked of a class whose errors isinstance is asked of -/
structure IsC (K : PySem.W.Frag) (D : Addr) : Prop where
  cl : (PySem.W.clsIn K D).isSome = true
  hg : PySem.W.findIn K (.ref D) "__getattribute__" = some (some (.builtin "BaseException.__getattribute__"))
  hk : PySem.W.findIn K (.ref D) "__getattr__" = some none
  hs : PySem.W.subIn K (.ref D) (.type "BaseException") = some true
  ty : PySem.W.typeIn K (.ref D) = some (.type "type")
  ha : PySem.W.findIn K (.ref D) "__class__" = some (some (.builtin "object.__class__"))
  hn : PySem.W.specialIn K (.builtin "object.__class__") "__get__" = some (some (.builtin "getset_descriptor.__get__"))
  ht : PySem.W.takesIn K (.builtin "object.__class__") = some true
  hm : PySem.W.mroIn K D (.type "object") = some true
  kp : PySem.W.keepIn K (.ref D) = true
def isCB (K : PySem.W.Frag) (D : Addr) : Bool :=
  (PySem.W.clsIn K D).isSome && (decide (PySem.W.findIn K (.ref D) "__getattribute__" = some (some (.builtin "BaseException.__getattribute__"))) && (decide (PySem.W.findIn K (.ref D) "__getattr__" = some none) &&
  (decide (PySem.W.subIn K (.ref D) (.type "BaseException") = some true) && (decide (PySem.W.typeIn K (.ref D) = some (.type "type")) && (decide (PySem.W.findIn K (.ref D) "__class__" = some (some (.builtin "object.__class__"))) &&
  (decide (PySem.W.specialIn K (.builtin "object.__class__") "__get__" = some (some (.builtin "getset_descriptor.__get__"))) && (decide (PySem.W.takesIn K (.builtin "object.__class__") = some true) &&
  (decide (PySem.W.mroIn K D (.type "object") = some true) && PySem.W.keepIn K (.ref D)))))))))
theorem isCB_ok {K : PySem.W.Frag} {D : Addr} (h : isCB K D = true) : IsC K D := by
  simp only [isCB, Bool.and_eq_true, decide_eq_true_eq] at h
  obtain ⟨h1, h2, h3, h4, h5, h6, h7, h8, h9, h10⟩ := h
  exact ⟨h1, h2, h3, h4, h5, h6, h7, h8, h9, h10⟩
theorem IsC.raises {X : Cx} {D : Addr} (c : IsC X.K D) : Raises X (.ref D) := raises_own c.hs c.ty
/-- isinstance(e, c), e the error that the suite holds, c a class or a tuple of classes -/
def rIsX (K : PySem.W.Frag) (a : Addr) (cls : Value) (d : Option Addr) : RC := fun xs H Q => ∃ (D : Addr) (c : V) (b : Bool), cls = .ref D ∧ IsC K D ∧ (∀ dx, d = some dx → ∃ fs, H dx = some (.xd fs)) ∧ xs = [.ref a, c] ∧
  ((∃ u, ClsV c u ∧ PySem.W.kitOne K (.ref D) u = some b) ∨ ∃ (tp : Addr) (cs : List V) (us : List Value), c = .ref tp ∧ H tp = some (.tup cs) ∧ Paired ClsV cs us ∧ PySem.W.kitAny K (.ref D) us = some b) ∧ Q (.bl b) H
theorem call_isX {X : Cx} {a : Addr} {oe : Obj} {cls : Value} {d : Option Addr} {pn : List (Addr × Obj)} (hz : Zc cls d oe) (hf : ∃ vs, oe.data = .fields vs) : CallR (X.suite a ((a, oe) :: pn)) (.builtin "isinstance") (rIsX X.K a cls d) := by
  intro pins s σ H xs us Q I r h
  obtain ⟨D, c, b, rfl, C, hdx, rfl, hc, q⟩ := h
  obtain ⟨u1, u2, rfl, r1, r2⟩ := vals2 r
  cases (show u1 = Value.ref a from r1)
  obtain ⟨hget, _⟩ := I.pin (a, oe) (List.mem_append.mpr (.inl List.mem_cons_self))
  obtain ⟨vs, hv⟩ := hf
  have J : ∃ od, PySem.W.InstAt s.heap a oe D od := by
    cases d with
    | none =>
      refine ⟨none, hget, hz.1, by unfold PySem.W.notCls; rw [hv] <;> rfl, ?_⟩
      rw [hz.2]; trivial
    | some dx =>
      obtain ⟨fs, e⟩ := hdx dx rfl
      have hx : ObjOk X.prog X.w H s.heap dx (.xd fs) := I.hok dx _ e
      obtain ⟨mA, hns, _⟩ := hx
      obtain ⟨od, ho, _⟩ := lookIn_ns hns
      exact ⟨some od, hget, hz.1, by unfold PySem.W.notCls; rw [hv] <;> rfl, by rw [hz.2]; exact ho⟩
  obtain ⟨od, J⟩ := J
  have Z := PySem.W.kitx_exc (K := X.K) (x := a) (C := D) (ox := oe) (od := od) C.cl C.hg C.hk C.hs C.ha C.hn C.ht C.hm
  rcases hc with ⟨u, ku, e⟩ | ⟨tp, cs, ws, rfl, hT, ks, e⟩
  · have e2 := ku.eq r2
    subst e2
    exact PySem.W.kia_one Z I.kIn J e (fun z => nomatch z) fun tk => ⟨.bl b, H, I.kept (t' := tk) fun _ _ z => z, rfl, q⟩
  · cases (show u2 = Value.ref tp from r2)
    obtain ⟨_, its, rv, o, h1, h2, n, h3⟩ := (show ObjOk X.prog X.w H s.heap tp (.tup cs) from I.hok tp _ hT)
    have e3 := ClsV.all ks rv
    subst e3
    obtain ⟨oc, od', dt, sl⟩ := o
    simp only at h2 h3
    subst h2 h3
    exact PySem.W.kia_tup Z I.kIn J h1 e (fun z => nomatch z) fun tk => ⟨.bl b, H, I.kept (t' := tk) fun _ _ z => z, rfl, q⟩
end Pv

namespace Pv
open PySem PySem.Spec PyProof.Rows L2
/-! an error with one field of its own -/
def inCls (st : Stmt) (i : Nat) : Stmt := match st with
  | .ClassDef _ _ _ body _ _ _ _ _ _ _ => body.getD i (.Pass ⟨0, 0, 0, 0⟩)
  | _ => .Pass ⟨0, 0, 0, 0⟩
def spI1 (C : Addr) (fld : Str) : Sp := fun vs H Q _ => ∃ (a : Addr) (v : V), vs = [.ref a, v] ∧ H a = some (exo a C none) ∧ ∀ dx, H dx = none → dx ≠ a → Q .non (upd (upd H dx (exd dx [(fld, v)])) a (exo a C (some dx)))
theorem mkO1 {C : Addr} {fld : Str} {v : V} {H1 : Hp} {Q : XK} (h : ∀ d, H1 d = none → Q (.ref C) (some d) (upd H1 d (.xd [(fld, v)]))) :
    [v].length ≤ 1000 ∧ ∀ a, H1 a = none → spI1 C fld (.ref a :: ([v] ++ [])) (upd H1 a (exo a C none))
      (fun v' H2 => v' = .non ∧ ∃ (d : Addr) (fs : List (Str × V)), H2 a = some (exo a C (some d)) ∧ H2 d = some (exd d fs) ∧ H1 d = none ∧ Q (.ref C) (some d) (upd (del H2 a) d (.xd fs))) (fun _ _ _ => False) := by
  refine ⟨by simp, fun a na => ⟨a, v, rfl, upd_same, fun dx nd ne => ⟨rfl, dx, [(fld, v)], upd_same, ?_, ?_, ?_⟩⟩⟩
  · rw [upd_ne ne]; exact upd_same
  · rw [upd_ne ne] at nd; exact nd
  · have nd1 : H1 dx = none := by rw [upd_ne ne] at nd; exact nd
    have e : upd (del (upd (upd (upd H1 a (exo a C none)) dx (exd dx [(fld, v)])) a (exo a C (some dx))) a) dx (.xd [(fld, v)]) = upd H1 dx (.xd [(fld, v)]) := by
      funext b
      by_cases hb : b = dx
      · rw [hb, upd_same, upd_same]
      · rw [upd_ne hb, upd_ne hb]
        by_cases ha : b = a
        · rw [ha, del_same, na]
        · rw [del_ne ha, upd_ne ha, upd_ne hb, upd_ne ha]
    rw [e]
    exact h dx nd1
/-- what the written part says of such a class -/
structure XF (K : PySem.W.Frag) (C fI : Addr) (fld : Str) : Prop where
  T : OexC K C
  iC : PySem.W.findIn K (.ref C) "__init__" = some (some (.ref fI))
  tI : PySem.W.typeIn K (.ref fI) = some (.type "function")
  no : PySem.W.findIn K (.ref C) fld = some none
  rd : XfC K C
def xf1B (K : PySem.W.Frag) (C fI : Addr) (fld : Str) : Bool :=
  decide (PySem.W.findIn K (.ref C) "__setattr__" = some (some (.builtin "object.__setattr__"))) && (decide (PySem.W.subIn K (.ref C) (.type "BaseException") = some true) && (decide (PySem.W.typeIn K (.ref C) = some (.type "type")) && (PySem.W.keepIn K (.ref C) &&
  (decide (PySem.W.findIn K (.ref C) "__init__" = some (some (.ref fI))) && (decide (PySem.W.typeIn K (.ref fI) = some (.type "function")) && (decide (PySem.W.findIn K (.ref C) fld = some none) && xfB K C))))))
theorem xf1B_ok {K : PySem.W.Frag} {C fI : Addr} {fld : Str} (h : xf1B K C fI fld = true) (c : ∃ nm q N bs bm sn sub ab col dd k0 k1 k2 k3 k5, K.lookup C = some (excClassObj nm q C N bs bm true sn sub ab col dd k0 k1 k2 k3 k5 "ValueError.__new__") ∧ PySem.HandSPX.refsVE bm = true) : XF K C fI fld := by
  simp only [xf1B, Bool.and_eq_true, decide_eq_true_eq] at h
  obtain ⟨h1, h2, h3, h4, h5, h6, h7, h8⟩ := h
  exact ⟨⟨c, h1, h2, h3, h4⟩, h5, h6, h7, xfB_ok h8⟩
end Pv

namespace Pv
open PySem PySem.Spec PyProof.Rows L2
/-! the same for a class right under LookupError -/
abbrev LEbm : List Value := [.type "LookupError", .type "Exception", .type "BaseException", .type "object"]
structure OeL (K : PySem.W.Frag) (C : Addr) : Prop where
  cls : ∃ nm q N bs sn sub ab col dd k0 k1 k2 k3 k5, K.lookup C = some (excClassObj nm q C N bs LEbm true sn sub ab col dd k0 k1 k2 k3 k5 "LookupError.__new__")
  sa : PySem.W.findIn K (.ref C) "__setattr__" = some (some (.builtin "object.__setattr__"))
  exC : PySem.W.subIn K (.ref C) (.type "BaseException") = some true
  tyC : PySem.W.typeIn K (.ref C) = some (.type "type")
  kC : PySem.W.keepIn K (.ref C) = true
section
open PySem.HandSPX Builtin Builtin.ObjectAttr
variable {prog : Program} {w : World} {A : Around} {R : Result → Shared → Prop} {hp : Heap} {g : Array GenState} {d : Drawn} {t : Nat} {os : OsState}
theorem le_loop (self : Value) (c : Addr) : refuseLoop self "__setattr__" (.ref c :: LEbm) = pure () := (refuseLoop_ref ..).trans (PySem.F.store_LookupError.passes self)
/-- the first field is stored: a dict is laid, and nothing else is touched -/
theorem le_store {K : PySem.W.Frag} {fld : Str} {tk : Tok} {v : Value} {x C : Addr} {fv : Array Value} {cd : ClassData} (X : K.In hp) (hx : hp.get? x = some { cls := .ref C, data := .fields fv }) (hcd : PySem.W.clsIn K C = some cd)
    (hm : cd.mro = .ref C :: LEbm) (hh : cd.hasDict = true) (ha : PySem.W.findIn K (.ref C) fld = some none)
    (fin : ∀ h' tk' dx, (∀ b o, b ≠ x → hp.get? b = some o → h'.get? b = some o) → hp.objs.size ≤ dx → dx ≠ x → h'.get? x = some { cls := .ref C, dict := some dx, data := .fields fv } →
      h'.Ns1 dx (fun y => if y = fld then some v else none) → R (.ok (.ret .none)) ⟨h', g, d, tk', os⟩) :
    codeAny (model prog w) A (.call (.builtin "object.__setattr__") ⟨[.ref x, .str fld tk, v], []⟩) R ⟨hp, g, d, t, os⟩ := by
  have at_x : PySem.W.InstAt hp x { cls := .ref C, data := .fields fv } C none := ⟨hx, rfl, rfl, trivial⟩
  have far : x ≠ hp.objs.size := Nat.ne_of_lt (Heap.lt_size hx)
  have obj : PySem.W.mroIn K C (.type "object") = some true := by
    unfold PySem.W.mroIn
    rw [hcd, Option.bind_some, hm]
    rfl
  have isObj : PySem.W.Looks (model prog w) hp (isInstance (.ref x) (.type "object")) true := at_x.type.andThen (PySem.W.looks_mroIn X obj)
  have facts := PySem.F.store_object
  refine codeAny_call_builtin facts.slot.plain facts.entry (@PySem.W.check_slot (model prog w) _ _ ⟨hp, g, d, t, os⟩ "object.__setattr__" "object" "__setattr__" (.ref x) [.str fld tk, v] [] _ facts.kind facts.split isObj (facts.args (.ref x) (.str fld tk) v) ?_)
  have mros : PySem.W.Looks (model prog w) hp (mroOf (.ref C)) cd.mro := (PySem.W.looks_clsIn X hcd).andThen .now
  have data : PySem.W.Looks (model prog w) hp (classData C) cd := PySem.W.looks_clsIn X hcd
  have taker : PySem.W.Looks (model prog w) hp (storeTaker? none) none := .now
  rw [PySem.W.osa_eq, refuse_eq]
  refine wpAny_bind (wpAny_bind (at_x.type.at (wpAny_bind (mros.at ?_))))
  rw [hm, le_loop]
  refine wpAny_pure (wpAny_bind (at_x.type.at (wpAny_bind ((PySem.W.looks_findIn X ha).at (wpAny_bind (taker.at ?_))))))
  show wpAny _ _ (storeInOwnDict (.ref x) (.ref C) (.str fld tk) fld v false) _ _ _
  obtain ⟨nm, bs, mro, ns, qn, hd, sn, sb, ab, col, del⟩ := cd
  dsimp only at hh
  subst hh
  unfold storeInOwnDict ownDictForStores
  repeat (first | with_reducible refine PySem.HandSPX.store_in_new ?_ ?_ | with_reducible refine wpAny_loadPart_at hx ?_ | with_reducible refine data.at ?_ | wp_step)
  · exact ⟨_, #[], _, (Heap.get?_update_ne _ _ _ _ far.symm).trans (Heap.get?_push_at rfl rfl), rfl, fun e he => absurd he (by simp), fun _ => rfl⟩
  · intro h' tk' hn' hs
    have old : (hp.push { cls := .type "dict", data := .dict #[] }).get? x = some { cls := .ref C, data := .fields fv } := Heap.get?_push_of_some _ hx
    refine fin h' tk' hp.objs.size (fun b o hb ho => ?_) (Nat.le_refl _) far.symm ?_ hn'
    · rw [hs.2 b (Nat.ne_of_lt (Heap.lt_size ho)), Heap.get?_update_ne _ _ _ _ hb]
      exact Heap.get?_push_of_some _ ho
    · rw [hs.2 x far]
      exact Heap.get?_update_self _ old rfl
end
section
variable {X : Cx} {pins : List (Addr × Obj)} {σ : L2.St} {H : Hp} {s : Shared} {a C : Addr} {f : Str} {y : V} {u : Value} {Q : Unit → Shared → Prop} {E : Value → Shared → Prop} {A : Around}
theorem le_put (T : OeL X.K C) (I : Inv X pins σ H s) (e : H a = some (exo a C none)) (hno : PySem.W.findIn X.K (.ref C) f = some none) (ry : RelV y u)
    (fin : ∀ dx s', H dx = none → dx ≠ a → Inv X pins σ (upd (upd H dx (exd dx [(f, y)])) a (exo a C (some dx))) s' → Q () s') : wpAny (model X.prog X.w) A (setAttr (.ref a) f u) Q E s := by
  obtain ⟨nm, qn, N, bs, sn, sub, ab, col, dd, k0, k1, k2, k3, k5, hC⟩ := T.cls
  have hcl : PySem.W.clsIn X.K C = some { name := nm, bases := bs, mro := .ref C :: LEbm, ns := N, qualname := qn, hasDict := true, slotNames := sn, subclasses := sub, abstract := ab, collection := col, hasDel := false } := by
    unfold PySem.W.clsIn
    rw [hC] <;> rfl
  obtain ⟨t1, ho⟩ := exo_at I.hok e
  obtain ⟨hp, g, d, t, os⟩ := s
  refine PySem.W.set_plain I.kIn (ox := { cls := .ref C, dict := none, data := .fields #[.ref t1, .none, .none, .none, .bool false, .none] }) (od := none) ⟨ho, rfl, rfl, trivial⟩ T.sa ?_
  refine le_store I.kIn ho hcl rfl rfl hno (fun h' tk' dx kp big dne hx hns => ?_)
  have free : H dx = none := I.hok.fresh big
  have offD : ∀ {b : Addr} {o : Obj}, hp.get? b = some o → b ≠ dx := fun {b o} z => Nat.ne_of_lt (Nat.lt_of_lt_of_le (Heap.lt_size z) big)
  have offA : ∀ {b : Addr}, H b = none → b ≠ a := fun {b} n z => by rw [z, e] at n; cases n
  have two : ∀ {b : Addr} {o : HO}, H b = some o → exo a C none ≠ o → (upd (upd H dx (exd dx [(f, y)])) a (exo a C (some dx))) b = some o := fun {b o} z ne => by
    rw [upd_ne (at_ne e z ne), upd_ne (ne_of_none z free)]; exact z
  have step : Un X.fs [] H (upd (upd H dx (exd dx [(f, y)])) a (exo a C (some dx))) hp h' :=
    { keep := fun b o z n _ _ => kp b o (offA n) z
      slot := fun b o z n _ _ => ⟨o.slots, kp b o (offA n) z⟩
      free := fun b o z n _ => by rw [upd_ne (offA n), upd_ne (offD z)]; exact n
      there := fun b o z _ => by
        by_cases hb : b = a
        · subst hb; exact ⟨_, hx⟩
        · exact ⟨o, kp b o hb z⟩
      tups := fun b xs z => two z exo_tup
      frzs := fun b o v z => two z exo_frz
      tbls := fun b ps z => ⟨#[], by rw [two z exo_tbl]; simp⟩ }
  refine fin dx _ free dne (I.un (t' := tk') step fun b o z => ?_)
  by_cases hb : b = a
  · subst hb
    rw [upd_same] at z
    cases z
    exact exo_ok hx
  · rw [upd_ne hb] at z
    by_cases hd : b = dx
    · subst hd
      rw [upd_same] at z
      cases z
      exact exd_ok hns (relO_put (fs := []) ry fun _ => True.intro)
    · rw [upd_ne hd] at z
      refine (I.hok b o z).stay (fun c v hc zz => kp c v ?_ zz) (fun c hc => two hc exo_own) (fun c xs hc => two hc exo_tup)
      rcases hc with hc | hc
      · rw [hc]; exact hb
      · exact at_ne e hc exo_own
end
def tOstL (K : PySem.W.Frag) (f : Str) (to te : TE) : TS := fun D σ H => te σ H fun y H1 => to σ H1 fun x H2 => ∃ a C : Addr, x = .ref a ∧ OeL K C ∧ PySem.W.findIn K (.ref C) f = some none ∧ H2 a = some (exo a C none) ∧
  ∀ dx, H2 dx = none → dx ≠ a → D.nx σ (upd (upd H2 dx (exd dx [(f, y)])) a (exo a C (some dx)))
section
variable {X : Cx} {o e : Expr} {es : List Expr} {to te : TE} {ta : TA} {f x : Str} {p p' pos : Pos}
theorem ps_ostL (ho : PE X o to) (he : PE X e te) (hs : swapsWith e (some (.Attribute o f p')) pos.line X.env = pure false := by rfl) : PS X (.Assign [.Attribute o f p'] e pos) (tOstL X.K f to te) := by
  refine ⟨fun pins s σ H D I h => plainObj_wpAny_Assign_Attribute (thn (he.run pins s σ H _ I h) fun v s1 r1 => ?_) hs⟩
  obtain ⟨y, H1, I1, ry, q1⟩ := r1
  refine thn (ho.run pins s1 σ H1 _ I1 q1) fun u s2 r2 => ?_
  obtain ⟨z, H2, I2, rz, a, C, ez, T, hno, ea, q⟩ := r2
  subst ez
  cases (show u = Value.ref a from rz)
  exact le_put T I2 ea hno ry fun dx s' n ne J => ⟨σ, _, J, q dx n ne⟩
theorem pmk_le {C fI : Addr} {k : Nat} {fd : FuncData} {ps : List Str} {sp : Sp} (T : OeL X.K C) (iC : PySem.W.findIn X.K (.ref C) "__init__" = some (some (.ref fI))) (tI : PySem.W.typeIn X.K (.ref fI) = some (.type "function"))
    (F1 : FnOk X.prog X.w X.K X.mg X.base CX0 k fI fd ps sp) (hr : Room (k + 1) X.A) (hb : Binds X.K fd ps []) (hg : Gl X x) (hm : X.mg x = some (.ref C)) (ha : PA X (e :: es) ta)
    (hdb : (x == ("__debug__" : Str)) = false := by decide) (he : starEach (e :: es) X.env = (false, eval e X.env) :: starEach es X.env := by rfl) (hpl : (backTo pos (starEach es X.env)).any (·.1) = false := by rfl) :
    PMk X (.Call (.Name x p) (e :: es) [] pos) (tMkO C sp [] ta) := by
  intro pins s σ H Q I h
  obtain ⟨nm, qn, N, bs, sn, sub, ab, col, dd, k0, k1, k2, k3, k5, hC⟩ := T.cls
  refine wpAny_Call_Name_kw (ld_glob I hg hm ?_ hdb)
  refine PySem.W.callWith_K (h₀ := X.base) I.ok.mod.kin T.kC (thn (ha.run pos pins s σ H _ I h) fun us s1 got => ?_) he hpl
  obtain ⟨vs, H1, I1, r1, hz, q1⟩ := got
  refine ⟨I1.kIn, ?_⟩
  show wpAny _ _ (call (.ref C) us) _ _ _
  obtain ⟨hp, g, dr, tk, os⟩ := s1
  have new : H1 (hp.objs.size + 1) = none := I1.hok.fresh (Nat.le_succ _)
  have kk : ∀ b o, hp.get? b = some o → ((hp.push (PySem.W.kdv_tup us)).push (PySem.HandSPX.excO C hp.objs.size)).get? b = some o := fun b o z => Heap.get?_push_of_some _ (Heap.get?_push_of_some _ z)
  have there : ((hp.push (PySem.W.kdv_tup us)).push (PySem.HandSPX.excO C hp.objs.size)).get? (hp.objs.size + 1) = some (PySem.HandSPX.excO C hp.objs.size) := by heap_get
  have I2 : Inv X pins σ (upd H1 (hp.objs.size + 1) (exo (hp.objs.size + 1) C none)) ⟨(hp.push (PySem.W.kdv_tup us)).push (PySem.HandSPX.excO C hp.objs.size), g, dr, tk, os⟩ :=
    I1.laid (t' := tk) (a := hp.objs.size + 1) (o := exo (hp.objs.size + 1) C none) (h' := (hp.push (PySem.W.kdv_tup us)).push (PySem.HandSPX.excO C hp.objs.size)) kk (Nat.le_succ _) (exo_ok there)
  have want := q1 (hp.objs.size + 1) new
  have rel : Vals (V.ref (hp.objs.size + 1) :: (vs ++ [])) (Value.ref (hp.objs.size + 1) :: (us ++ [])) := .cons rfl (r1.append .nil)
  have len : (Value.ref (hp.objs.size + 1) :: us ++ []).length = ps.length := by
    have z := rel.length
    rw [F1.len _ _ _ _ want] at z
    exact z.symm
  have few : us.length ≤ sizeLine := by
    rw [← Paired.length r1, sizeLine_eq]
    omega
  refine wpAny_call (PySem.HandSPX.call_own PySem.F.excBase_LookupError (fun _ => rfl) (I1.kIn _ _ hC) (PySem.W.looks_findIn I1.kIn iC) (fun self => PySem.W.bind_fn I1.kIn self tI) few ?_)
  have bnd := hb _ (Value.ref (hp.objs.size + 1) :: us) I2.kIn len
  rw [List.cons_append] at bnd
  refine codeAny_mono (F1.run _ X.stack _ _ ⟨Value.ref (hp.objs.size + 1) :: us, []⟩ (Value.ref (hp.objs.size + 1) :: (us ++ [])) _ _ (fun _ _ _ => False) (hr.make C us []) (I2.env0.make C us []) bnd rel want) fun rr s' done => ?_
  cases rr with
  | error er => exact done.elim
  | ok fl =>
    cases fl with
    | next => exact done.elim
    | brk => exact done.elim
    | cont => exact done.elim
    | ret u =>
      obtain ⟨v, H2, os2, bare2, un2, hok2, rv, ev, dx, fs, ea, ed, hd1, q2⟩ := done
      subst ev
      obtain ⟨h2, g2, d2, t2, os'⟩ := s'
      exact ⟨rv, mk_end (raises_own T.exC T.tyC) I1 (Nat.le_succ _) kk un2 hok2 os2 bare2 ea ed hd1 q2⟩
end
structure XL (K : PySem.W.Frag) (C fI : Addr) (fld : Str) : Prop where
  T : OeL K C
  iC : PySem.W.findIn K (.ref C) "__init__" = some (some (.ref fI))
  tI : PySem.W.typeIn K (.ref fI) = some (.type "function")
  no : PySem.W.findIn K (.ref C) fld = some none
  rd : XfC K C
theorem xl1B_ok {K : PySem.W.Frag} {C fI : Addr} {fld : Str} (h : xf1B K C fI fld = true) (c : ∃ nm q N bs sn sub ab col dd k0 k1 k2 k3 k5, K.lookup C = some (excClassObj nm q C N bs LEbm true sn sub ab col dd k0 k1 k2 k3 k5 "LookupError.__new__")) : XL K C fI fld := by
  simp only [xf1B, Bool.and_eq_true, decide_eq_true_eq] at h
  obtain ⟨h1, h2, h3, h4, h5, h6, h7, h8⟩ := h
  exact ⟨⟨c, h1, h2, h3, h4⟩, h5, h6, h7, xfB_ok h8⟩
end Pv

namespace Pv
open PySem PySem.Spec PyProof.Rows L2
/-! several clauses, each with a name for the error -/
abbrev Clause := Value × Nat × (Addr → Value → Option Addr → TS)
def endsOf (D : Ends) (i : Nat) : Ends := { nx := fun σ H => D.nx (σ.set i none) H, rt := D.rt, bk := fun σ H => D.bk (σ.set i none) H, ct := fun σ H => D.ct (σ.set i none) H }
def wClauses (K : PySem.W.Frag) (Wout : WX) (D : Ends) : List Clause → WX
  | [] => Wout
  | (c, i, ts) :: r => fun cls d σ H => ∃ b, PySem.W.exmOne K cls c = some b ∧ (b = true → ∀ a, H a = none → ts a cls d (endsOf D i) (σ.set i (some (.ref a))) H) ∧ (b = false → wClauses K Wout D r cls d σ H)
inductive Clauses (X : Cx) : List ExceptHandler → List Clause → Prop
  | nil : Clauses X [] []
  | cons {x n : Str} {c : Value} {i : Nat} {ts : Addr → Value → Option Addr → TS} {b₀ : Stmt} {suite : List Stmt} {np pos' : Pos} {hds : List ExceptHandler} {l : List Clause} (hi : X.N[i]? = some n) (hl : X.env.kindOf n = some .local) (hc : Names X x c)
      (hsu : ∀ (a : Addr) (oe : Obj) (cls : Value) (d : Option Addr) (pn : List (Addr × Obj)), Zc cls d oe → (∃ vs, oe.data = .fields vs) → PSs (X.suite a ((a, oe) :: pn)) (b₀ :: suite) (ts a cls d)) (r : Clauses X hds l) :
      Clauses X (.ExceptHandler (some (.Name x np)) (some n) (b₀ :: suite) pos' :: hds) ((c, i, ts) :: l)
section
variable {X : Cx} {body : List Stmt} {h₀ : ExceptHandler} {hds : List ExceptHandler} {l : List Clause} {pos : Pos} {tb : WX → TS} {Wout : WX}
theorem ps_tries (hs : X.stack = X.env :: X.outer) (hf : X.env.frame = some X.env.locals) (hN : X.N.Nodup) (tk : Takes X Wout)
    (hb : ∀ (W : WX) (pn : List (Addr × Obj)) (xe : Value → Shared → Prop), Takes (X.tr pn xe) W → PassesOwn (model X.prog X.w) X.A X.env xe → PSs (X.tr pn xe) body (tb W))
    (hh : Clauses X (h₀ :: hds) l) : PS X (.Try body (h₀ :: hds) [] [] pos) (fun D σ H => tb (wClauses X.K Wout D l) D σ H) := by
  refine ⟨fun pins s σ H D I h => ?_⟩
  have ok := I.ok
  have frames : X.A.frames = some (X.env :: X.outer) := by rw [ok.frames, hs]
  let after : Value → Shared → Prop := fun e s₁ => wpAny (model X.prog X.w) X.A (noteFrame e X.env) (fun _ s₂ => wpAny (model X.prog X.w) X.A (setFlight e none) (fun _ s₃ =>
    wpAny (model X.prog X.w) X.A (handleBy e X.env (h₀ :: hds)) (SP X pins D) X.xe s₃) X.xe s₂) X.xe s₁
  have caught : Takes (X.tr (X.pn ++ pins) after) (wClauses X.K Wout D l) := by
    intro u s' xx
    obtain ⟨a, B, sI, pins', σ', H', cls, d, rfl, J', nb, up, sky, na, os, ag, want⟩ := xx
    have J : Inv X pins σ' H' sI := J'.ofTry ok
    have sky' : Sky B (X.env :: X.outer) a (Zc cls d) X.env.locals s'.heap := by rw [← hs]; exact sky
    show wpAny (model X.prog X.w) X.A (noteFrame (.ref a) X.env) _ _ _
    refine Sky.land Zc.steady frames hf sky' fun h3 fl3 up3 => ?_
    have J3 : Inv X pins σ' H' { s' with heap := h3 } := J.landed nb fl3.1 (up.trans up3) os ag
    obtain ⟨oe3, vs3, he3, hz3, hd3⟩ := fl3.there
    have off : a ∉ frs (X.env :: X.outer) := fun hm => by
      obtain ⟨_, o', e', hnf⟩ := fl3.2.2.1.mem hm
      rw [he3] at e'
      cases e'
      exact hnf _ hd3
    have offL : a ≠ X.env.locals := fun z => off (List.mem_filterMap.mpr ⟨X.env, List.mem_cons_self, by rw [hf, z]⟩)
    have offF : a ∉ X.fs := fun hm => by
      obtain ⟨e, he, q⟩ := List.mem_filterMap.mp hm
      exact off (List.mem_filterMap.mpr ⟨e, List.mem_cons_of_mem _ he, q⟩)
    have S3 := J3.suite he3 hd3 na offL offF
    have walk : ∀ {hl : List ExceptHandler} {cl : List Clause}, Clauses X hl cl → wClauses X.K Wout D cl cls d σ' H' → wpAny (model X.prog X.w) X.A (handleBy (.ref a) X.env hl) (SP X pins D) X.xe { s' with heap := h3 } := by
      intro hl cl hk
      induction hk with
      | nil =>
        intro want
        refine wpAny_handleBy_nil ?_
        obtain ⟨k1, k2, k3, oe, vs, T, oT, ts', he, hz, hd, h1, hr⟩ := id fl3
        have out : wpAny (model X.prog X.w) X.A (setFlight (.ref a) X.env.frame) (fun _ s4 => wpAny (model X.prog X.w) X.A (throw (.ref a) : Sem Flow) (SP X pins D) X.xe s4) X.xe { s' with heap := h3 } := by
          rw [hf]
          refine HandSPX.setFlight_upZ fl3 fun h4 hh4 up4 => wpAny_throw (tk _ _ ?_)
          exact ⟨a, B, sI, pins, σ', H', cls, d, rfl, J, nb, (up.trans up3).trans up4, .inr (.inr (by rw [hs]; exact hh4)), na, os, ag, want⟩
        unfold PySem.passOn
        refine wpAny_bind (wpAny_field he hd h1 ?_)
        rw [if_neg (show ¬ ((Value.ref T == Value.none) = true) from by simp)]
        first
          | exact wpAny_bind out
          | exact wpAny_bind (wpAny_pure (wpAny_bind out))
      | @cons x n c i ts b₀ suite np pos' hds2 l2 hi hl hc hsu r ih =>
        intro want
        obtain ⟨b, hb1, yes, no⟩ := want
        refine wpAny_handleBy_cons (codeAny_handlers_test ?_) (by intro q; cases q)
        have ty : PySem.W.Looks (model X.prog X.w) h3 (typeOf (.ref a)) cls := fun A Q E s k q => wpAny_typeOf_ref (k _ _ he3) (by rw [hz3.1]; exact q)
        have meets := PySem.W.exm_one (M := model X.prog X.w) (J3.kIn) ty hb1
        have named : ∀ {Q : Value → Shared → Prop} {E : Value → Shared → Prop}, Q c { s' with heap := h3 } → wpAny (model X.prog X.w) (X.A.mark (some (.ref a))) (eval (.Name x np) X.env) Q E { s' with heap := h3 } := fun {Q E} q => by
          obtain ⟨hg, hdbg, hm | ⟨hm, hv, hnn⟩⟩ := hc
          · exact ld_glob (X := X.suite a ((a, oe3) :: (X.pn ++ pins))) S3 hg hm q hdbg
          · exact ld_blt (X := X.suite a ((a, oe3) :: (X.pn ++ pins))) S3 hg hm hv q hnn hdbg
        refine named (meets.here ?_)
        cases b with
        | false =>
          show wpAny _ X.A (handleBy (.ref a) X.env hds2) _ _ _
          exact ih (no rfl)
        | true =>
          refine codeAny_handlers_suite_as ?_
          refine HandSPX.lands_againZ fl3 fun h4 fl4 up4 => ?_
          have J4 : Inv X pins σ' H' { s' with heap := h4 } := J.landed nb fl4.1 ((up.trans up3).trans up4) os ag
          obtain ⟨oe4, vs4, he4, hz4, hd4⟩ := fl4.there
          have S4 := J4.suite he4 hd4 na offL offF
          refine store_ok (X := X.suite a ((a, oe4) :: (X.pn ++ pins))) (v := .ref a) S4 hN hi (.inl hl) rfl (fun s5 S5 => ?_) (.inr hl)
          refine wpAny_mono ((hsu a oe4 cls d (X.pn ++ pins) hz4 ⟨_, hd4⟩).run [] s5 _ H' _ S5 (yes rfl a na)) (fun fl s6 done => ?_) (fun _ _ z => False.elim z)
          have unname : ∀ {σ6 : L2.St} {H6 : Hp} {Q : Shared → Prop}, Inv (X.suite a ((a, oe4) :: (X.pn ++ pins))) [] σ6 H6 s6 → (∀ s7, Inv X pins (σ6.set i none) H6 s7 → Q s7) →
              wpAny (model X.prog X.w) X.A (do bindName X.env n .none; unbindBehindTheSuite X.env n pos') (fun _ s7 => Q s7) X.xe s6 := fun {σ6 H6 Q} S6 hq => gone_ok (S6.unsuite ok) hN hi hl hq
          cases fl with
          | next => obtain ⟨σ6, H6, S6, q6⟩ := done; exact unname S6 fun s7 J7 => ⟨_, _, J7, q6⟩
          | brk => obtain ⟨σ6, H6, S6, q6⟩ := done; exact unname S6 fun s7 J7 => ⟨_, _, J7, q6⟩
          | cont => obtain ⟨σ6, H6, S6, q6⟩ := done; exact unname S6 fun s7 J7 => ⟨_, _, J7, q6⟩
          | ret u => obtain ⟨v6, σ6, H6, S6, r6, q6⟩ := done; exact unname S6 fun s7 J7 => ⟨_, _, _, J7, r6, q6⟩
    exact walk hh want
  refine wpAny_Try_except (wpAny_mono ((hb _ (X.pn ++ pins) after caught PassesOwn.looking).run [] s σ H D (I.toTry _) h) (fun fl s1 done => ?_) (fun e s1 he => he))
  cases fl with
  | next => obtain ⟨σ', H', J', q⟩ := done; exact wpAny_execs_nil ⟨σ', H', J'.ofTry ok, q⟩
  | brk => obtain ⟨σ', H', J', q⟩ := done; exact ⟨σ', H', J'.ofTry ok, q⟩
  | cont => obtain ⟨σ', H', J', q⟩ := done; exact ⟨σ', H', J'.ofTry ok, q⟩
  | ret u => obtain ⟨v, σ', H', J', r, q⟩ := done; exact ⟨v, σ', H', J'.ofTry ok, r, q⟩
end
/-! a call of one of several defs, whichever the expression hands out -/
structure Callee (P : Program) (w : World) (K : PySem.W.Frag) (mg : Str → Option Value) (base : Heap) (CX : CXT) (k : Nat) (f : Addr) (sp : Sp) : Prop where
  ok : ∃ fd ps, FnOk P w K mg base CX k f fd ps sp ∧ Binds K fd ps []
  kp : PySem.W.keepIn K (.ref f) = true
def tCallV (tbl : List (Addr × Sp)) (E : L2.St → XK) (tf : TE) (t : TA) : TE := fun σ H Q => tf σ H fun x H1 => ∃ (f : Addr) (sp : Sp), (f, sp) ∈ tbl ∧ x = .ref f ∧ t σ H1 fun vs H2 => sp vs H2 Q (E σ)
theorem pe_callV {X : Cx} {CX : CXT} {k : Nat} {tbl : List (Addr × Sp)} {E : L2.St → XK} {fe e : Expr} {es : List Expr} {pos : Pos} {tf : TE} {t : TA} (hT : ∀ q ∈ tbl, Callee X.prog X.w X.K X.mg X.base CX k q.1 q.2) (hr : Room k X.A) (hx : ∀ σ, PassesAt CX X σ (E σ))
    (hf : PE X fe tf) (ha : PA X (e :: es) t)
    (ht : eval (.Call fe (e :: es) [] pos) X.env = (do callWith pos (← eval fe X.env) [] (backTo pos (starEach (e :: es) X.env)) (backToKw pos (keywordEach [] X.env))) := by rfl)
    (he : starEach (e :: es) X.env = (false, eval e X.env) :: starEach es X.env := by rfl) (hpl : (backTo pos (starEach es X.env)).any (·.1) = false := by rfl) :
    PE X (.Call fe (e :: es) [] pos) (tCallV tbl E tf t) := by
  refine ⟨fun pins s σ H Q I h => PyProof.Rows.Call_ (thn (hf.run pins s σ H _ I h) fun u s1 got => ?_) ht⟩
  obtain ⟨x, H1, I1, rx, f, sp, hm, ex, q1⟩ := got
  subst ex
  cases (show u = Value.ref f from rx)
  obtain ⟨⟨fd, ps, F, hb⟩, hk⟩ := hT _ hm
  refine PySem.W.callWith_K (h₀ := X.base) I1.ok.mod.kin hk (thn (ha.run pos pins s1 σ H1 _ I1 q1) fun us s2 got2 => ?_) he hpl
  obtain ⟨vs, H2, I2, r2, q2⟩ := got2
  exact ⟨I2.kIn, run_fnS F hr hb (hx σ) I2 r2 q2⟩
end Pv

namespace Pv
open PySem PySem.Spec PyProof.Rows L2
/-! an error with two fields of its own -/
def spI2 (C : Addr) (f1 f2 : Str) : Sp := fun vs H Q _ => ∃ (a : Addr) (v w : V), vs = [.ref a, v, w] ∧ H a = some (exo a C none) ∧ ∀ dx, H dx = none → dx ≠ a → Q .non (upd (upd H dx (exd dx [(f2, w), (f1, v)])) a (exo a C (some dx)))
theorem mkO2 {C : Addr} {f1 f2 : Str} {v w : V} {H1 : Hp} {Q : XK} (h : ∀ d, H1 d = none → Q (.ref C) (some d) (upd H1 d (.xd [(f2, w), (f1, v)]))) :
    [v, w].length ≤ 1000 ∧ ∀ a, H1 a = none → spI2 C f1 f2 (.ref a :: ([v, w] ++ [])) (upd H1 a (exo a C none))
      (fun v' H2 => v' = .non ∧ ∃ (d : Addr) (fs : List (Str × V)), H2 a = some (exo a C (some d)) ∧ H2 d = some (exd d fs) ∧ H1 d = none ∧ Q (.ref C) (some d) (upd (del H2 a) d (.xd fs))) (fun _ _ _ => False) := by
  refine ⟨by simp, fun a na => ⟨a, v, w, rfl, upd_same, fun dx nd ne => ⟨rfl, dx, [(f2, w), (f1, v)], upd_same, ?_, ?_, ?_⟩⟩⟩
  · rw [upd_ne ne]; exact upd_same
  · rw [upd_ne ne] at nd; exact nd
  · have nd1 : H1 dx = none := by rw [upd_ne ne] at nd; exact nd
    have e : upd (del (upd (upd (upd H1 a (exo a C none)) dx (exd dx [(f2, w), (f1, v)])) a (exo a C (some dx))) a) dx (.xd [(f2, w), (f1, v)]) = upd H1 dx (.xd [(f2, w), (f1, v)]) := by
      funext b
      by_cases hb : b = dx
      · rw [hb, upd_same, upd_same]
      · rw [upd_ne hb, upd_ne hb]
        by_cases ha : b = a
        · rw [ha, del_same, na]
        · rw [del_ne ha, upd_ne ha, upd_ne hb, upd_ne ha]
    rw [e]
    exact h dx nd1
structure XF2 (K : PySem.W.Frag) (C fI : Addr) (f1 f2 : Str) : Prop where
  T : OexC K C
  iC : PySem.W.findIn K (.ref C) "__init__" = some (some (.ref fI))
  tI : PySem.W.typeIn K (.ref fI) = some (.type "function")
  no1 : PySem.W.findIn K (.ref C) f1 = some none
  no2 : PySem.W.findIn K (.ref C) f2 = some none
  rd : XfC K C
def xf2B (K : PySem.W.Frag) (C fI : Addr) (f1 f2 : Str) : Bool := xf1B K C fI f1 && decide (PySem.W.findIn K (.ref C) f2 = some none)
theorem xf2B_ok {K : PySem.W.Frag} {C fI : Addr} {f1 f2 : Str} (h : xf2B K C fI f1 f2 = true) (c : ∃ nm q N bs bm sn sub ab col dd k0 k1 k2 k3 k5, K.lookup C = some (excClassObj nm q C N bs bm true sn sub ab col dd k0 k1 k2 k3 k5 "ValueError.__new__") ∧ PySem.HandSPX.refsVE bm = true) : XF2 K C fI f1 f2 := by
  simp only [xf2B, Bool.and_eq_true, decide_eq_true_eq] at h
  have x := xf1B_ok h.1 c
  exact ⟨x.T, x.iC, x.tI, x.no, h.2, x.rd⟩
end Pv

namespace Pv
open PySem PySem.Spec PyProof.Rows L2
theorem seq_with {t u : TS} {D : Ends} {σ : L2.St} {H : Hp} (Pre : L2.St → Hp → Prop) (rest : ∀ σ1 H1, Pre σ1 H1 → u D σ1 H1) (main : (∀ σ1 H1, Pre σ1 H1 → u D σ1 H1) → tSeq t u D σ H) : tSeq t u D σ H := main rest
theorem perm_erase : ∀ (l : List Int) (k : Nat) (h : k < l.length), (l[k] :: l.eraseIdx k).Perm l
  | [], _, h => by simp at h
  | a :: l, 0, _ => by simp
  | a :: l, k + 1, h => by
    have ih := perm_erase l k (by simpa using h)
    simp only [List.getElem_cons_succ, List.eraseIdx_cons_succ]
    exact (List.Perm.swap _ _ _).trans (List.Perm.cons _ ih)
theorem nodup_step {ms l : List Int} {k : Nat} (h : k < l.length) (hn : (ms ++ l).Nodup) : ((ms ++ [l[k]]) ++ l.eraseIdx k).Nodup := by
  rw [List.append_assoc]
  exact (List.Perm.append_left ms (perm_erase l k h)).symm.nodup hn
theorem upTo_nodup (n : Nat) : (upTo n).Nodup := by
  unfold upTo
  show List.Pairwise _ _
  rw [List.pairwise_map]
  exact List.Pairwise.imp (fun h hab => h (Int.ofNat.inj hab)) (List.nodup_range (n := n))
def wholeD (d : PyData) : Bool := isInt d && !isBool d
def withinD (a b : Int) : PyData → Bool
  | .int i => decide (a ≤ i ∧ i ≤ b)
  | _ => false
def tupOfD (a b : Int) : PyData → Bool
  | .tuple ds => decide (a ≤ (ds.length : Int) ∧ (ds.length : Int) ≤ b)
  | _ => false
def intsAll : List PyData → Option (List Int)
  | [] => some []
  | .int i :: r => (intsAll r).map (i :: ·)
  | _ :: _ => none
def intsOf : PyData → Option (List Int)
  | .tuple ds => intsAll ds
  | _ => none
theorem intsAll_ints : ∀ row : List Int, intsAll (row.map PyData.int) = some row
  | [] => rfl
  | i :: r => by simp [intsAll, intsAll_ints r]
theorem intsAll_eq : ∀ {ds : List PyData} {row : List Int}, intsAll ds = some row → ds = row.map PyData.int
  | [], row, h => by simp [intsAll] at h; subst h; rfl
  | d :: ds, row, h => by
    cases d <;> simp [intsAll] at h
    obtain ⟨r, h1, rfl⟩ := h
    rw [intsAll_eq h1]; rfl
theorem within_ints : ∀ {ds : List PyData} {a b : Int}, ds.all (withinD a b) = true → ∃ row : List Int, ds = row.map PyData.int ∧ row.all (fun x => decide (a ≤ x ∧ x ≤ b)) = true
  | [], _, _, _ => ⟨[], rfl, rfl⟩
  | d :: ds, a, b, h => by
    rw [List.all_cons, Bool.and_eq_true] at h
    obtain ⟨row, e, h2⟩ := within_ints h.2
    cases d with
    | int i => exact ⟨i :: row, by rw [e]; rfl, by rw [List.all_cons, Bool.and_eq_true]; exact ⟨h.1, h2⟩⟩
    | _ => simp [withinD] at h
def optV (ps : List Int) (k : Nat) : V := match ps[k]? with | some p => .int p | none => .non
def dAdd (ls : List Int) (g : Gp) : List Int := match g.1 with | [] => ls | p :: _ => addAt ls p g.2
def demOf (n : Nat) (gs : List Gp) : List Int := gs.foldl dAdd (zeros n)
theorem dAdd_len (ls : List Int) (g : Gp) : (dAdd ls g).length = ls.length := by
  unfold dAdd; split
  · rfl
  · exact addAt_len ..
theorem demOf_len (n : Nat) (gs : List Gp) : (demOf n gs).length = n := by
  unfold demOf
  suffices h : ∀ ls : List Int, (gs.foldl dAdd ls).length = ls.length by rw [h]; simp [zeros]
  intro ls
  induction gs generalizing ls with
  | nil => rfl
  | cons g gs ih => rw [List.foldl_cons, ih, dAdd_len]
theorem demOf_snoc {n : Nat} {gs : List Gp} {i : Nat} {g : Gp} (h : gs[i]? = some g) : demOf n (gs.take (i + 1)) = dAdd (demOf n (gs.take i)) g := by
  unfold demOf
  rw [take_snoc h, List.foldl_append]; rfl
def mx (j : Int) : Int := if j > 0 then j else 0
def excOf (cs ds : List Int) : List Int := (cs.zip ds).map fun q => mx (q.2 - q.1)
def freOf (cs ds : List Int) : List Int := (cs.zip ds).map fun q => mx (q.1 - q.2)
def sel (f : Int → Bool) (ls : List Int) (n : Nat) : List Int := ((List.range n).filter fun i => f (ls.getD i 0)).map fun (i : Nat) => (i : Int)
theorem sel_succ (f : Int → Bool) (ls : List Int) {n : Nat} {x : Int} (h : ls[n]? = some x) : sel f ls (n + 1) = sel f ls n ++ (if f x then [(n : Int)] else []) := by
  unfold sel
  rw [List.range_succ, List.filter_append, List.map_append]
  have e : ls.getD n 0 = x := by rw [List.getD_eq_getElem?_getD, h]; rfl
  simp only [List.filter_cons, List.filter_nil, e]
  cases f x <;> rfl
theorem sel_len (f : Int → Bool) (ls : List Int) (n : Nat) : (sel f ls n).length ≤ n := by
  unfold sel
  rw [List.length_map]
  exact Nat.le_trans (List.length_filter_le ..) (by simp)
def isFree (ps cl : List Int) (k : Nat) : Bool := !(cl.contains (ps.getD k 0))
def resOf (ps cl : List Int) : Nat := ((List.range' 1 (ps.length - 1)).find? (isFree ps cl)).getD ps.length
theorem inV_ints (x : Int) : ∀ cl : List Int, inV (.int x) (cl.map V.int) = cl.contains x
  | [] => rfl
  | c :: cl => by
    show ((c == x) || inV (.int x) (cl.map V.int)) = _
    rw [inV_ints x cl, List.contains_cons]
    congr 1
    exact Bool.beq_comm
theorem flat_ints (cl : List Int) : (cl.map V.int).all flatV = true := by
  induction cl with
  | nil => rfl
  | cons c cl ih => simpa [flatV] using ih
def rDem (cs : List Int) (gs : List Gp) : List Int := demOf cs.length gs
def rExc (cs : List Int) (gs : List Gp) : List Int := excOf cs (rDem cs gs)
def rFre (cs : List Int) (gs : List Gp) : List Int := freOf cs (rDem cs gs)
def rCla (cs : List Int) (gs : List Gp) : List Int := sel (fun x => decide (x = 0)) (rFre cs gs) cs.length
def rCro (cs : List Int) (gs : List Gp) : List Int := sel (fun x => decide (0 < x)) (rExc cs gs) cs.length
theorem rDem_len (cs : List Int) (gs : List Gp) : (rDem cs gs).length = cs.length := demOf_len ..
theorem rExc_len (cs : List Int) (gs : List Gp) : (rExc cs gs).length = cs.length := by simp [rExc, excOf, rDem_len]
theorem rFre_len (cs : List Int) (gs : List Gp) : (rFre cs gs).length = cs.length := by simp [rFre, freOf, rDem_len]
def oV : Option Int → V
  | some x => .int x
  | none => .non
theorem optV_oV (ps : List Int) (k : Nat) : optV ps k = oV ps[k]? := by unfold optV; cases ps[k]? <;> rfl
def routeOf (cs : List Int) (gs : List Gp) (g : Gp) : Option (Int × Option Int) := match g.1 with
  | [] => none
  | p :: _ => if (rCro cs gs).contains p = true then some (p, g.1[resOf g.1 (rCla cs gs)]?) else none
def RtV (K : PySem.W.Frag) (H : Hp) (v : V) : Option (Int × Option Int) → Prop
  | none => v = .non
  | some r => ∃ T, v = .ref T ∧ SqT K H T [.int r.1, oV r.2]
def RtAll (K : PySem.W.Frag) (H : Hp) (vs : List V) (rs : List (Option (Int × Option Int))) : Prop := vs.length = rs.length ∧ ∀ (j : Nat) (v : V) (r : Option (Int × Option Int)), vs[j]? = some v → rs[j]? = some r → RtV K H v r
theorem RtV.tk {K : PySem.W.Frag} {H H' : Hp} {v : V} {r : Option (Int × Option Int)} (h : RtV K H v r) (s : TupK H H') : RtV K H' v r := by
  cases r with
  | none => exact h
  | some r => obtain ⟨T, e, h⟩ := h; exact ⟨T, e, s.sq h⟩
theorem RtAll.tk {K : PySem.W.Frag} {H H' : Hp} {vs : List V} {rs : List (Option (Int × Option Int))} (h : RtAll K H vs rs) (s : TupK H H') : RtAll K H' vs rs := ⟨h.1, fun j v r h1 h2 => (h.2 j v r h1 h2).tk s⟩
theorem RtAll.snoc {K : PySem.W.Frag} {H : Hp} {vs : List V} {rs : List (Option (Int × Option Int))} {v : V} {r : Option (Int × Option Int)} (h : RtAll K H vs rs) (hv : RtV K H v r) : RtAll K H (vs ++ [v]) (rs ++ [r]) := by
  refine ⟨by simp [h.1], fun j v' r' h1 h2 => ?_⟩
  by_cases hj : j < vs.length
  · rw [List.getElem?_append_left hj] at h1
    rw [List.getElem?_append_left (by rw [← h.1]; exact hj)] at h2
    exact h.2 j v' r' h1 h2
  · rw [List.getElem?_append_right (by omega)] at h1
    rw [List.getElem?_append_right (by rw [← h.1]; omega)] at h2
    have e : j - vs.length = 0 := by have := (List.getElem?_eq_some_iff.mp h1).1; simp at this; omega
    rw [e] at h1
    rw [← h.1, e] at h2
    simp at h1 h2
    rw [← h1, ← h2]; exact hv
theorem inV_opt (ps cl : List Int) : inV (optV ps 0) (cl.map V.int) = match ps with | [] => false | p :: _ => cl.contains p := by
  cases ps with
  | nil =>
    show inV .non (cl.map V.int) = false
    induction cl with
    | nil => rfl
    | cons c cl ih =>
      have e : eqV (V.int c) V.non = false := rfl
      simp only [List.map_cons, inV] at ih ⊢
      simp [e] at ih ⊢
      exact ih
  | cons p ps => exact inV_ints p cl
theorem resOf_le (ps cl : List Int) : resOf ps cl ≤ ps.length := by
  unfold resOf
  cases e : (List.range' 1 (ps.length - 1)).find? (isFree ps cl) with
  | none => simp
  | some x =>
    have := List.mem_of_find?_eq_some e
    rw [List.mem_range'_1] at this
    simp; omega
theorem iteFF {c : Bool} {A B : Prop} (hc : c = false) (h : B) : if c = true then A else B := by rw [if_neg (by rw [hc]; decide)]; exact h
theorem iteTT {c : Bool} {A B : Prop} (hc : c = true) (h : A) : if c = true then A else B := by rw [if_pos hc]; exact h
theorem eqv_intsL (as bs : List Int) : PyData.eqv (.list (as.map PyData.int)) (.list (bs.map PyData.int)) = decide (as = bs) := by
  have key : ∀ (as bs : List Int), PyData.eqvAll (as.map PyData.int) (bs.map PyData.int) = decide (as = bs) := by
    intro as
    induction as with
    | nil => intro bs; cases bs <;> simp [PyData.eqvAll]
    | cons a as ih =>
      intro bs
      cases bs with
      | nil => simp [PyData.eqvAll]
      | cons b bs =>
        simp only [List.map_cons, PyData.eqvAll, PyData.eqv, ih, List.cons.injEq]
        by_cases h1 : a = b <;> by_cases h2 : as = bs <;> simp [h1, h2]
  rw [PyData.eqv]; exact key as bs
def mvStep (st : List Int × List Int) (z : Option (Int × Option Int) × Int) : List Int × List Int := match z.1 with
  | none => st
  | some r => (addAt st.1 r.1 z.2, match r.2 with | some y => addAt st.2 y z.2 | none => st.2)
def mvOf (n : Nat) (zs : List (Option (Int × Option Int) × Int)) : List Int × List Int := zs.foldl mvStep (zeros n, zeros n)
theorem mvOf_snoc (n : Nat) (zs : List (Option (Int × Option Int) × Int)) (z : Option (Int × Option Int) × Int) : mvOf n (zs ++ [z]) = mvStep (mvOf n zs) z := by simp [mvOf, List.foldl_append]
theorem mvOf_len (n : Nat) (zs : List (Option (Int × Option Int) × Int)) : (mvOf n zs).1.length = n ∧ (mvOf n zs).2.length = n := by
  have : ∀ (zs : List (Option (Int × Option Int) × Int)) (s : List Int × List Int), s.1.length = n → s.2.length = n → (zs.foldl mvStep s).1.length = n ∧ (zs.foldl mvStep s).2.length = n := by
    intro zs
    induction zs with
    | nil => intro s h1 h2; exact ⟨h1, h2⟩
    | cons z zs ih =>
      intro s h1 h2
      refine ih _ ?_ ?_
      · unfold mvStep; split
        · exact h1
        · simp only [addAt_len]; exact h1
      · unfold mvStep; split
        · exact h2
        · simp only; split
          · rw [addAt_len]; exact h2
          · exact h2
  exact this zs _ (by simp [zeros]) (by simp [zeros])
def zsOf (cs : List Int) (gs : List Gp) (xs : List Int) : List (Option (Int × Option Int) × Int) := (gs.map (routeOf cs gs)).zip xs
def goodZ (z : Option (Int × Option Int) × Int) : Bool := z.1.isSome || decide (z.2 = 0)
def meetsD (cs : List Int) (gs : List Gp) (xs : List Int) : Bool := (zsOf cs gs xs).all goodZ && decide ((mvOf cs.length (zsOf cs gs xs)).1 = rExc cs gs) && ((mvOf cs.length (zsOf cs gs xs)).2.zip (rFre cs gs)).all (fun z => decide (z.1 ≤ z.2))
theorem route_in {cs : List Int} {gs : List Gp} (ok : InsOk cs gs) {g : Gp} (hg : g ∈ gs) {r : Int × Option Int} (h : routeOf cs gs g = some r) : (0 ≤ r.1 ∧ r.1 < (cs.length : Int)) ∧ ∀ y, r.2 = some y → 0 ≤ y ∧ y < (cs.length : Int) := by
  have hp := (ok.gp g hg).2.1
  unfold routeOf at h
  cases e : g.1 with
  | nil => rw [e] at h; cases h
  | cons p ps =>
    rw [e] at h
    simp only at h
    split at h
    · cases h
      refine ⟨hp p (by rw [e]; simp), fun y hy => hp y ?_⟩
      rw [e]
      exact List.mem_of_getElem? hy
    · cases h
def intAt : PyData → Int
  | .int i => i
  | _ => 0
def tupIt : PyData → List PyData
  | .tuple ds => ds
  | _ => []
def isVecD (cs : List Int) (gs : List Gp) (d : PyData) : Bool := tupOfD (gs.length : Nat) (gs.length : Nat) d && ((gs.zip (tupIt d)).all (fun z => withinD 0 z.1.2 z.2) && meetsD cs gs ((tupIt d).map intAt))
theorem ints_vals {K : PySem.W.Frag} {st r : Addr} {H : Hp} : ∀ {ds : List PyData} {zs : List V}, (∀ d ∈ ds, ∃ x, d = PyData.int x) → DqAll K st r H zs ds → zs = (ds.map intAt).map V.int
  | [], _, _, h => by cases h; rfl
  | d :: ds, _, hi, h => by
    cases h with
    | cons h1 h2 =>
      obtain ⟨x, rfl⟩ := hi d (by simp)
      cases h1
      rw [ints_vals (fun d hd => hi d (by simp [hd])) h2]
      rfl
theorem sel_has (f : Int → Bool) (ls : List Int) {n k : Nat} (hk : k < n) : (sel f ls n).contains (k : Int) = f (ls.getD k 0) := by
  rw [Bool.eq_iff_iff, List.contains_iff_mem]
  simp only [sel, List.mem_map, List.mem_filter, List.mem_range]
  constructor
  · rintro ⟨a, ⟨h, e⟩, h2⟩
    have : a = k := by omega
    subst this; exact e
  · exact fun h => ⟨k, ⟨hk, h⟩, rfl⟩
theorem fre_at {cs ds : List Int} {p : Nat} (h1 : p < cs.length) (h2 : p < ds.length) : (freOf cs ds).getD p 0 = mx (cs[p] - ds[p]) := by
  unfold freOf
  rw [List.getD_eq_getElem?_getD, List.getElem?_map, (List.getElem?_zip_eq_some.mpr ⟨List.getElem?_eq_getElem h1, List.getElem?_eq_getElem h2⟩ : (cs.zip ds)[p]? = some (cs[p], ds[p]))]
  rfl
theorem exc_at {cs ds : List Int} {p : Nat} (h1 : p < cs.length) (h2 : p < ds.length) : (excOf cs ds).getD p 0 = mx (ds[p] - cs[p]) := by
  unfold excOf
  rw [List.getD_eq_getElem?_getD, List.getElem?_map, (List.getElem?_zip_eq_some.mpr ⟨List.getElem?_eq_getElem h1, List.getElem?_eq_getElem h2⟩ : (cs.zip ds)[p]? = some (cs[p], ds[p]))]
  rfl
theorem cla_has {cs : List Int} {gs : List Gp} {p : Nat} (h : p < cs.length) : (rCla cs gs).contains (p : Int) = decide (cs[p] ≤ (rDem cs gs)[p]'(by rw [rDem_len]; exact h)) := by
  unfold rCla
  rw [sel_has _ _ h]
  unfold rFre
  rw [fre_at h (by rw [rDem_len]; exact h)]
  unfold mx
  rw [decide_eq_decide]
  split <;> omega
theorem cro_has {cs : List Int} {gs : List Gp} {p : Nat} (h : p < cs.length) : (rCro cs gs).contains (p : Int) = decide (cs[p] < (rDem cs gs)[p]'(by rw [rDem_len]; exact h)) := by
  unfold rCro
  rw [sel_has _ _ h]
  unfold rExc
  rw [exc_at h (by rw [rDem_len]; exact h)]
  unfold mx
  rw [decide_eq_decide]
  split <;> omega
theorem zip_turn {α β γ : Type} (f : α × β → γ) : ∀ (as : List α) (bs : List β), (as.zip bs).map f = (bs.zip as).map fun z => f (z.2, z.1)
  | [], bs => by simp
  | a :: as, [] => by simp
  | a :: as, b :: bs => by simp [zip_turn f as bs]
theorem exc_zip (ds cs : List Int) : (ds.zip cs).map (fun z => V.int (mx (z.1 - z.2))) = (excOf cs ds).map V.int := by
  rw [zip_turn]; unfold excOf; rw [List.map_map]; rfl
theorem fre_zip (ds cs : List Int) : (ds.zip cs).map (fun z => V.int (mx (z.2 - z.1))) = (freOf cs ds).map V.int := by
  rw [zip_turn]; unfold freOf; rw [List.map_map]; rfl
theorem res_head {ps cl : List Int} {F : Nat → Option V} (hl : 1 ≤ ps.length) (hF : ∀ k, 1 ≤ k → k < ps.length → F k = if isFree ps cl k = true then some (.int (k : Nat)) else none) (hL : F ps.length = some (.int (ps.length : Nat))) :
    ((List.range' 1 ps.length).filterMap F)[0]? = some (.int (resOf ps cl : Nat)) := by
  obtain ⟨m, hm⟩ : ∃ m, ps.length = m + 1 := ⟨ps.length - 1, by omega⟩
  have e : List.range' 1 ps.length = List.range' 1 m ++ [ps.length] := by rw [hm, List.range'_1_concat, Nat.add_comm 1 m]
  have key : ∀ l : List Nat, (∀ k ∈ l, 1 ≤ k ∧ k < ps.length) → (l.filterMap F ++ [V.int (ps.length : Nat)])[0]? = some (.int (((l.find? (isFree ps cl)).getD ps.length : Nat) : Int)) := by
    intro l
    induction l with
    | nil => intro _; rfl
    | cons k l ih =>
      intro h
      have hk := h k (by simp)
      have := hF k hk.1 hk.2
      by_cases hf : isFree ps cl k = true
      · rw [if_pos hf] at this
        rw [List.filterMap_cons_some this, List.find?_cons_of_pos hf]; rfl
      · rw [if_neg hf] at this
        rw [List.filterMap_cons_none this, List.find?_cons_of_neg hf]
        exact ih fun k hk => h k (by simp [hk])
  rw [e, List.filterMap_append, show List.filterMap F [ps.length] = [V.int (ps.length : Nat)] by simp [hL], key _ (fun k hk => by rw [List.mem_range'_1] at hk; omega)]
  unfold resOf
  rw [hm, Nat.add_sub_cancel]
abbrev Rw := Nat × Int × Option Int × Int
def rowAt (cs : List Int) (gs : List Gp) (j : Nat) (g : Gp) : Option Rw := (routeOf cs gs g).map fun r => (j, r.1, r.2, g.2)
def rowsTo (cs : List Int) (gs : List Gp) (n : Nat) : List Rw := (List.range n).filterMap fun j => gs[j]?.bind (rowAt cs gs j)
theorem rowsTo_succ {cs : List Int} {gs : List Gp} {j : Nat} {g : Gp} (h : gs[j]? = some g) : rowsTo cs gs (j + 1) = rowsTo cs gs j ++ (rowAt cs gs j g).toList := by
  unfold rowsTo
  rw [List.range_succ, List.filterMap_append]
  congr 1
  simp only [List.filterMap_cons, List.filterMap_nil, h, Option.bind_some]
  cases rowAt cs gs j g <;> rfl
theorem rowsTo_len (cs : List Int) (gs : List Gp) (n : Nat) : (rowsTo cs gs n).length ≤ n := by
  unfold rowsTo
  exact Nat.le_trans (List.length_filterMap_le _ _) (by simp)
def RwV (K : PySem.W.Frag) (H : Hp) (v : V) (r : Rw) : Prop := ∃ T, v = .ref T ∧ SqT K H T [.int (r.1 : Nat), .int r.2.1, oV r.2.2.1, .int r.2.2.2]
theorem RwV.tk {K : PySem.W.Frag} {H H' : Hp} {v : V} {r : Rw} (h : RwV K H v r) (s : TupK H H') : RwV K H' v r := by
  obtain ⟨T, e, h⟩ := h; exact ⟨T, e, s.sq h⟩
theorem RwV.same {K : PySem.W.Frag} {H H' : Hp} {v : V} {r : Rw} (h : RwV K H v r) (s : Same H H') : RwV K H' v r := h.tk (.of s)
def subL (a b : List Int) : List Int := List.zipWith (fun x y => x - y) a b
theorem subL_len {a b : List Int} (h : a.length = b.length) : (subL a b).length = a.length := by simp [subL, h]
theorem sub_add {a b : List Int} {p : Nat} {x : Int} (hab : a.length = b.length) (hp : p < (subL a b).length) : subL a (addAt b (p : Int) x) = (subL a b).set p ((subL a b)[p] - x) := by
  have hpb : p < b.length := by rw [subL_len hab] at hp; omega
  unfold addAt
  rw [Int.toNat_natCast]
  apply List.ext_getElem
  · simp [subL, hab]
  · intro n h1 h2
    simp only [subL, List.getElem_zipWith, List.getElem_set]
    by_cases h : p = n
    · subst h; simp [hpb]; omega
    · simp [h]
theorem sub_zero (a : List Int) : subL a (zeros a.length) = a := by
  induction a with
  | nil => rfl
  | cons x a ih => simp [subL, zeros, List.replicate_succ] at ih ⊢; exact ih
theorem sub_eq : ∀ {a b : List Int}, a.length = b.length → ((subL a b).filter (fun x => !decide (x = 0))).isEmpty = decide (b = a)
  | [], [], _ => by simp [subL]
  | [], _ :: _, h => by simp at h
  | _ :: _, [], h => by simp at h
  | x :: a, y :: b, h => by
    have ih := sub_eq (a := a) (b := b) (by simpa using h)
    unfold subL at ih ⊢
    rw [List.zipWith_cons_cons]
    by_cases e : x - y = 0
    · have e2 : y = x := by omega
      rw [List.filter_cons_of_neg (by simp [e]), ih]
      simp [e2]
    · have e2 : ¬ y = x := by omega
      rw [List.filter_cons_of_pos (by simp [e])]
      simp [e2]
theorem sub_le : ∀ {a b : List Int}, a.length = b.length → ((subL a b).filter (fun x => decide (x < 0))).isEmpty = (b.zip a).all (fun z => decide (z.1 ≤ z.2))
  | [], [], _ => by simp [subL]
  | [], _ :: _, h => by simp at h
  | _ :: _, [], h => by simp at h
  | x :: a, y :: b, h => by
    have ih := sub_le (a := a) (b := b) (by simpa using h)
    unfold subL at ih ⊢
    rw [List.zipWith_cons_cons]
    by_cases e : x - y < 0
    · have e2 : ¬ y ≤ x := by omega
      rw [List.filter_cons_of_pos (by simp [e])]
      simp [e2]
    · have e2 : y ≤ x := by omega
      rw [List.filter_cons_of_neg (by simp [e]), ih]
      simp [e2]
def stepR (xs : List Int) (st : List Int × List Int) (r : Rw) : List Int × List Int := mvStep st (some (r.2.1, r.2.2.1), xs.getD r.1 0)
def mvR (n : Nat) (xs : List Int) (rows : List Rw) : List Int × List Int := rows.foldl (stepR xs) (zeros n, zeros n)
theorem mvR_snoc (n : Nat) (xs : List Int) (rows : List Rw) (r : Rw) : mvR n xs (rows ++ [r]) = stepR xs (mvR n xs rows) r := by simp [mvR, List.foldl_append]
theorem mvR_len (n : Nat) (xs : List Int) (rows : List Rw) : (mvR n xs rows).1.length = n ∧ (mvR n xs rows).2.length = n := by
  have : ∀ (rows : List Rw) (s : List Int × List Int), s.1.length = n → s.2.length = n → (rows.foldl (stepR xs) s).1.length = n ∧ (rows.foldl (stepR xs) s).2.length = n := by
    intro rows
    induction rows with
    | nil => intro s h1 h2; exact ⟨h1, h2⟩
    | cons z zs ih =>
      intro s h1 h2
      refine ih _ ?_ ?_
      · simp only [stepR, mvStep, addAt_len]; exact h1
      · simp only [stepR, mvStep]; split
        · rw [addAt_len]; exact h2
        · exact h2
  exact this rows _ (by simp [zeros]) (by simp [zeros])
theorem zs_at {cs : List Int} {gs : List Gp} {xs : List Int} (hl : xs.length = gs.length) {j : Nat} (hj : j < gs.length) : (zsOf cs gs xs)[j]? = some (routeOf cs gs gs[j], xs[j]) := by
  unfold zsOf
  rw [List.getElem?_zip_eq_some]
  exact ⟨by rw [List.getElem?_map, List.getElem?_eq_getElem hj]; rfl, List.getElem?_eq_getElem (by omega)⟩
theorem mvR_all {cs : List Int} {gs : List Gp} {xs : List Int} (hl : xs.length = gs.length) : mvR cs.length xs (rowsTo cs gs gs.length) = mvOf cs.length (zsOf cs gs xs) := by
  have key : ∀ n, n ≤ gs.length → mvR cs.length xs (rowsTo cs gs n) = mvOf cs.length ((zsOf cs gs xs).take n) := by
    intro n
    induction n with
    | zero => intro _; rfl
    | succ n ih =>
      intro h
      have hg : gs[n]? = some gs[n] := List.getElem?_eq_getElem (by omega)
      rw [rowsTo_succ hg, take_snoc (zs_at hl (by omega)), mvOf_snoc, ← ih (by omega)]
      unfold rowAt
      cases hr : routeOf cs gs gs[n] with
      | none => simp [mvStep]
      | some r =>
        show mvR cs.length xs (rowsTo cs gs n ++ [(n, r.1, r.2, gs[n].2)]) = _
        rw [mvR_snoc]
        unfold stepR
        simp only
        rw [List.getD_eq_getElem?_getD, List.getElem?_eq_getElem (show n < xs.length by omega)]
        rfl
  have := key gs.length (Nat.le_refl _)
  rw [List.take_of_length_le (by unfold zsOf; rw [List.length_zip, List.length_map]; omega)] at this
  exact this
theorem row_mem {cs : List Int} {gs : List Gp} {n : Nat} {r : Rw} (h : r ∈ rowsTo cs gs n) : ∃ g, gs[r.1]? = some g ∧ routeOf cs gs g = some (r.2.1, r.2.2.1) ∧ r.1 < n := by
  unfold rowsTo at h
  rw [List.mem_filterMap] at h
  obtain ⟨j, hj, e⟩ := h
  rw [Option.bind_eq_some_iff] at e
  obtain ⟨g, hg, e⟩ := e
  unfold rowAt at e
  obtain ⟨q, hq, e⟩ := Option.map_eq_some_iff.mp e
  subst e
  exact ⟨g, hg, hq, List.mem_range.mp hj⟩
theorem rows_has {cs : List Int} {gs : List Gp} {n k : Nat} (hk : k < n) (hkg : k < gs.length) : ((rowsTo cs gs n).map (fun r => (r.1 : Int))).contains (k : Int) = (routeOf cs gs gs[k]).isSome := by
  rw [Bool.eq_iff_iff, List.contains_iff_mem]
  constructor
  · intro h
    obtain ⟨r, hr, e⟩ := List.mem_map.mp h
    obtain ⟨g, hg, hq, _⟩ := row_mem hr
    have e : r.1 = k := by have e : (r.1 : Int) = k := e; omega
    rw [e, List.getElem?_eq_getElem hkg] at hg
    cases hg
    rw [hq]; rfl
  · intro h
    obtain ⟨q, hq⟩ := Option.isSome_iff_exists.mp h
    refine List.mem_map.mpr ⟨(k, q.1, q.2, gs[k].2), ?_, rfl⟩
    unfold rowsTo
    rw [List.mem_filterMap]
    refine ⟨k, List.mem_range.mpr hk, ?_⟩
    rw [List.getElem?_eq_getElem hkg]
    unfold rowAt
    show Option.map _ (routeOf cs gs gs[k]) = _
    rw [hq]; rfl
def othOf (cs : List Int) (gs : List Gp) (n : Nat) : List Nat := (List.range n).filter (fun k => !((rowsTo cs gs gs.length).map (fun r => (r.1 : Int))).contains (k : Int))
theorem oth_good {cs : List Int} {gs : List Gp} {xs : List Int} (hl : xs.length = gs.length) : (((othOf cs gs xs.length).map (fun (k : Nat) => (k : Int))).filter (fun k => !decide (xs.getD k.toNat 0 = 0))).isEmpty = (zsOf cs gs xs).all goodZ := by
  rw [Bool.eq_iff_iff, List.isEmpty_iff, List.filter_eq_nil_iff, List.all_eq_true]
  constructor
  · intro h z hz
    obtain ⟨k, hk, e⟩ := List.mem_iff_getElem.mp hz
    have hkg : k < gs.length := by have := hk; unfold zsOf at this; rw [List.length_zip, List.length_map] at this; omega
    have e2 := zs_at (cs := cs) hl hkg
    rw [List.getElem?_eq_getElem hk, e] at e2
    cases e2
    unfold goodZ
    cases hr : routeOf cs gs gs[k] with
    | some r => rfl
    | none =>
      have := h (k : Int) (List.mem_map.mpr ⟨k, ?_, rfl⟩)
      · rw [Int.toNat_natCast, List.getD_eq_getElem?_getD, List.getElem?_eq_getElem (show k < xs.length by omega)] at this
        simpa using this
      · unfold othOf
        rw [List.mem_filter]
        refine ⟨List.mem_range.mpr (by omega), ?_⟩
        rw [rows_has hkg hkg, hr]; rfl
  · intro h k hk0
    obtain ⟨k, hk, rfl⟩ := List.mem_map.mp hk0
    unfold othOf at hk
    rw [List.mem_filter, List.mem_range] at hk
    have hkg : k < gs.length := by omega
    rw [rows_has hkg hkg] at hk
    have := h _ (List.mem_of_getElem? (zs_at (cs := cs) hl hkg))
    unfold goodZ at this
    rw [Int.toNat_natCast, List.getD_eq_getElem?_getD, List.getElem?_eq_getElem (show k < xs.length by omega)]
    cases hr : routeOf cs gs gs[k] with
    | some r => rw [hr] at hk; simp at hk
    | none => rw [hr] at this; simpa using this
theorem meets_by {cs : List Int} {gs : List Gp} {xs : List Int} (hl : xs.length = gs.length) : meetsD cs gs xs =
    ((((othOf cs gs xs.length).map (fun (k : Nat) => (k : Int))).filter (fun k => !decide (xs.getD k.toNat 0 = 0))).isEmpty && ((subL (rExc cs gs) (mvR cs.length xs (rowsTo cs gs gs.length)).1).filter (fun x => !decide (x = 0))).isEmpty && ((subL (rFre cs gs) (mvR cs.length xs (rowsTo cs gs gs.length)).2).filter (fun x => decide (x < 0))).isEmpty) := by
  have hm := mvOf_len cs.length (zsOf cs gs xs)
  rw [mvR_all hl, oth_good hl, sub_eq (by rw [rExc_len, hm.1]), sub_le (by rw [rFre_len, hm.2])]
  rfl
theorem oth_mem {cs : List Int} {gs : List Gp} {n : Nat} {k : Int} (h : k ∈ (othOf cs gs n).map (fun (k : Nat) => (k : Int))) : ∃ m : Nat, k = m ∧ m < n := by
  obtain ⟨m, hm, rfl⟩ := List.mem_map.mp h
  unfold othOf at hm
  rw [List.mem_filter, List.mem_range] at hm
  exact ⟨m, rfl, hm.1⟩
theorem Rl.app {β : Type} {R : V → β → Prop} {vs ws : List V} {rs ss : List β} (h : Rl R vs rs) (h' : Rl R ws ss) : Rl R (vs ++ ws) (rs ++ ss) := by
  refine ⟨by simp [h.1, h'.1], fun j v r h1 h2 => ?_⟩
  by_cases hj : j < vs.length
  · rw [List.getElem?_append_left hj] at h1
    rw [List.getElem?_append_left (by rw [← h.1]; exact hj)] at h2
    exact h.2 j v r h1 h2
  · rw [List.getElem?_append_right (by omega)] at h1
    rw [List.getElem?_append_right (by rw [← h.1]; omega), ← h.1] at h2
    exact h'.2 _ v r h1 h2
def TuV (K : PySem.W.Frag) (H : Hp) (v : V) (xs : List Int) : Prop := ∃ T, v = .ref T ∧ SqT K H T (xs.map V.int)
theorem TuV.tk {K : PySem.W.Frag} {H H' : Hp} {v : V} {xs : List Int} (h : TuV K H v xs) (s : TupK H H') : TuV K H' v xs := by
  obtain ⟨T, e, h⟩ := h; exact ⟨T, e, s.sq h⟩
theorem ext_dom {H H1 : Hp} {st g : Addr} {t t' : Nat} (d0 : DV H st g t) (x : Ext st g H H1) (d1 : DV H1 st g t') {a : Addr} (h : dom H a) : dom H1 a := by
  by_cases h1 : a = st
  · rw [h1]; exact d1.occ.1
  by_cases h2 : a = g
  · rw [h2]; exact d1.occ.2
  unfold dom at *
  cases e : H a with
  | none => exact absurd e h
  | some o => rw [x _ _ e h1 h2]; simp
theorem ext_new {H H1 : Hp} {st g : Addr} {t t' : Nat} (d0 : DV H st g t) (x : Ext st g H H1) (d1 : DV H1 st g t') {a : Addr} (n : H1 a = none) (h : dom H a) : False := ext_dom d0 x d1 h n
theorem IT.cutN {K : PySem.W.Frag} {H : Hp} {a : Addr} {L M : Nat} {Q : VK} {σ : L2.St} (h : IT K H a L M) (lo : Option Int) (q : ∀ (H' : Hp) (b : Addr), Same H H' → IT K H' b L M → Q (.ref b) H') : tNoPart σ H (fun u H3 => rSlA K (.ref a) lo u H3 Q) := IT.cut h lo none q
def MM : Nat := 10 ^ 12
theorem wt_ints (ns : List Int) : wtAll (ns.map PyData.int) = ns.length * 42 := by
  induction ns with
  | nil => rfl
  | cons a ns ih => simp only [List.map_cons, wtAll, wt, ih, List.length_cons]; omega
def VF (K : PySem.W.Frag) (X : Addr → Prop) (H : Hp) (v : V) : Prop := ∃ d, Dw K X H v d ∧ Fit (10 ^ 29) 4 5000 d
theorem VF.l {K : PySem.W.Frag} {X : Addr → Prop} {H H' : Hp} {v : V} (h : VF K X H v) (l : LX X H H') : VF K X H' v := by
  obtain ⟨d, h1, h2⟩ := h; exact ⟨d, h1.lx l, h2⟩
theorem IT.vf {K : PySem.W.Frag} {X : Addr → Prop} {H : Hp} {p : Addr} {L M : Nat} (h : IT K H p L M) (hL : L ≤ 100) (hM : M ≤ 10 ^ 29) : VF K X H (.ref p) := by
  obtain ⟨xs, h1, h2, h3⟩ := h
  exact ⟨dI xs, .of_dp (to_ints xs) (dI_sq h1), (fit_dI h3).mono hM (by decide) (by omega)⟩
def ITn (K : PySem.W.Frag) (H : Hp) (p : Addr) : Prop := ∃ xs : List Int, SqT K H p (xs.map V.int) ∧ 1 ≤ xs.length ∧ xs.length ≤ 10 ∧ ∀ x ∈ xs, x.natAbs ≤ 10 ^ 12
theorem ITn.tk {K : PySem.W.Frag} {H H' : Hp} {p : Addr} (h : ITn K H p) (s : TupK H H') : ITn K H' p := by obtain ⟨xs, h1, h2⟩ := h; exact ⟨xs, s.sq h1, h2⟩
theorem ITn.vf {K : PySem.W.Frag} {X : Addr → Prop} {H : Hp} {p : Addr} (h : ITn K H p) : VF K X H (.ref p) := by
  obtain ⟨xs, h1, h2, h3, h4⟩ := h
  exact IT.vf (L := 10) (M := 10 ^ 12) ⟨xs, h1, h3, h4⟩ (by decide) (by decide)
def X2 (st g : Addr) (a : Addr) : Prop := a = st ∨ a = g
theorem x2_dom {H : Hp} {st g a : Addr} {t : Nat} (d : DV H st g t) (h : X2 st g a) : dom H a := by
  rcases h with h | h
  · rw [h]; exact d.occ.1
  · rw [h]; exact d.occ.2
def Xd3 (st g D : Addr) (a : Addr) : Prop := a = st ∨ a = g ∨ a = D
end Pv

namespace Pv
open PySem PySem.Spec PyProof.Rows L2
def topS (i : Nat) : Stmt := PySem.Challenge.pw_postvote_k29_vectors_and_assignments.main.body.getD i (.Pass ⟨0, 0, 0, 0⟩)
abbrev sSt : Stmt := topS 40
theorem scSt : FnScope ["_law_script", "_law_greats", "_law_whole", "_law_cell"] ["_law_script"] (defScope sSt) := ⟨rfl, rfl, rfl, by decide +kernel, rfl, by decide +kernel, by decide +kernel⟩
abbrev sDr : Stmt := topS 41
theorem scDr : FnScope ["_law_deck", "_law_many", "_law_rest", "_law_mixed"] ["_law_deck", "_law_many"] (defScope sDr) := ⟨rfl, rfl, rfl, by decide +kernel, rfl, by decide +kernel, by decide +kernel⟩
theorem lay_ints : ∀ ns : List Int, PyData.canLayAll0 (ns.map PyData.int) = true
  | [] => by simp [PyData.canLayAll0]
  | n :: ns => by simp [PyData.canLayAll0, PyData.canLay0, lay_ints ns]
theorem dep_ints : ∀ ns : List Int, PyData.depthAll (ns.map PyData.int) = 0
  | [] => by simp [PyData.depthAll]
  | n :: ns => by simp [PyData.depthAll, PyData.depth, dep_ints ns]
theorem shaped_ints (ns : List Int) : SeqAt.shaped (.list (ns.map PyData.int)) = true := by
  show (PyData.canLay0 (.list (ns.map PyData.int)) && decide (PyData.depth (.list (ns.map PyData.int)) ≤ 64)) = true
  rw [Bool.and_eq_true]
  refine ⟨by simp only [PyData.canLay0]; exact lay_ints ns, decide_eq_true ?_⟩
  simp only [PyData.depth, dep_ints]; omega
theorem eqv_empty (ds : List PyData) : PyData.eqv (.list ds) (.list []) = ds.isEmpty := by
  cases ds <;> simp [PyData.eqv, PyData.eqvAll]
section
variable {P : Program} {w : World} {K : PySem.W.Frag} {mg : Str → Option Value} {base : Heap}
def spStart (K : PySem.W.Frag) : Sp := fun vs H Q _ => ∃ (a : Addr) (ns : List Int), vs = [.ref a] ∧ SqL K H a (ns.map V.int) ∧ ns.length ≤ 63 ∧
  ∀ H' st g, Same H H' → DV H' st g 0 → Q (.ref st) H'
set_option maxHeartbeats 2000000 in
theorem ok_St {f : Addr} {fd : FuncData} (F : Fun K "_law_begin" "_law_begin" sSt f fd)
    (m_abs : mg "abs" = none) (m_len : mg "len" = none) (m_int : mg "int" = none) :
    FnOk P w K mg base CX0 1 f fd ["_law_script"] (spStart K) := by
  refine F.ok scSt (fun vs H Q E h => ?_) (fun cdv A outer s H vs Q E hr h => ?_)
  · obtain ⟨a, ns, rfl, _⟩ := h; rfl
  · obtain ⟨a, ns, rfl, hS, hn, q⟩ := h
    refine ⟨_, pss_cons (ps_setLc (i := 1) (own := [("_law_cell", 3)]) (g := gName 3) (tt := tTest (tOp (rI0 fun i j => .bl (decide (j ≤ i))) (tCB (fun xs H Q => ∃ i, xs = [.int i] ∧ Q (.int (if i < 0 then -i else i)) H) (tCons (tVar 3) tNil)) (tOp (rI CPow fun i j => .int (i ^ j.toNat)) (tC (.int 10)) (tC (.int 18))))) (te := tCB (fun xs H Q => ∃ i, xs = [.int i] ∧ Q (.int (if i < 0 then -i else i)) H) (tCons (tVar 3) tNil)) rfl scSt.nd rfl rfl (sw_true rfl rfl rfl (by decide +kernel)) (pi_list (pv 0)) (blkOk_by (N := ["_law_script", "_law_greats", "_law_whole", "_law_cell"]) (sc := defScope sSt) (by decide +kernel)) (fun _ _ _ _ _ => pg_name (i := 3) scSt.nd rfl (.inl rfl)) (fun _ _ _ _ _ => pts_one (pt_cmpR op_ge (pe_callB call_abs (by rfl) m_abs (by decide +kernel) (pa_cons (pv 3) pa_nil)) (pe_op op_pow (pe_int) (pe_int)) (nomark _))) (fun _ _ _ _ _ => pe_callB call_abs (by rfl) m_abs (by decide +kernel) (pa_cons (pv 3) pa_nil)))
      (pss_cons (ps_set (i := 2) scSt.nd rfl (.inl rfl) (pe_op op_add (pe_int) (pe_callB call_lenQ (by rfl) m_len PySem.boot_len (pa_cons (pv 0) pa_nil))))
      (pss_cons (ps_for PassesOwn.never rfl (pi_list (pv 0)) (pg_name (i := 3) scSt.nd rfl (.inl rfl))
        (pss_one (ps_set (i := 2) scSt.nd rfl (.inl rfl) (pe_op op_mod (pe_op op_add (pe_op op_add (pe_op op_mul (pv 2) (pe_int)) (pe_op op_mul (pe_int) (pe_callB call_abs (by rfl) m_abs (by decide +kernel) (pa_cons (pv 3) pa_nil)))) (pe_callTy call_int1 (by rfl) m_int (by decide +kernel) (pa_cons (pe_cmpR op_lt (pv 3) (pe_int) (nomark _)) pa_nil))) (pe_int)))))
      (pss_one (ps_ret (pe_lst (pa_cons (pe_revL (pv 1)) (pa_cons (pv 2) (pa_cons (pe_int) pa_nil)))))))), ?_⟩
    refine ⟨.ref a, rfl, a, rfl, ⟨_, hS⟩, fun D nD => lc_it (walk_list (K := K) (a := a) (xs := ns.map V.int))
      (fun j H2 => Same H H2 ∧ ∃ ks : List Int, H2 D = some (.lst (ks.map V.int)) ∧ ks.length ≤ j) ⟨sameNew nD, [], upd_same, Nat.le_refl _⟩ (fun j H2 _ h => h.1.seq hS) ?_ ?_⟩
    · rintro j v H2 H3 hlt ⟨s2, ks, e2, l2⟩ ⟨rfl, hv⟩
      have hv' : (ns.map V.int)[j]? = some v := hv
      rw [List.getElem?_map] at hv'
      obtain ⟨z, hz, rfl⟩ := Option.map_eq_some_iff.mp hv'
      rw [List.length_map] at hlt
      refine ⟨rfl, .int z, rfl, z, rfl, _, _, rfl, rfl, ⟨by decide, by decide, by decide⟩, _, _, rfl, rfl, _, rfl, ite2 (fun h1 => ?_) (fun h1 => ?_)⟩
      · refine ⟨.int z, rfl, z, rfl, _, e2, ?_, samePut s2 nD, ks ++ [if z < 0 then -z else z], ?_, by simp; omega⟩
        · rw [List.length_map]; exact small (by omega)
        · rw [upd_same, List.map_append]; rfl
      · exact ⟨s2, ks, e2, by omega⟩
    rintro H2 ⟨s2, ks, e2, l2⟩
    rw [List.length_map] at l2
    refine ⟨.ref a, rfl, a, _, rfl, .inl (s2.seq hS), _, _, rfl, rfl, ?_⟩
    rw [List.length_map]
    refine ⟨.ref a, rfl, a, rfl, ⟨_, s2.seq hS⟩, for_it (walk_list (K := K) (a := a) (xs := ns.map V.int))
      (fun j σ H3 => ∃ (wh : Int) (y3 : Option V), σ = [some (.ref a), some (.ref D), some (.int wh), y3] ∧ 0 ≤ wh ∧ wh < 2305843009213693951 ∧ Same H2 H3)
      ⟨_, _, rfl, by omega, by omega, Same.refl _⟩ (fun j σ H3 _ h => by obtain ⟨_, _, _, _, _, s3⟩ := h; exact (s2.trans s3).seq hS) ?_ ?_⟩
    · rintro j v σ H3 H4 hlt ⟨wh, y3, rfl, w0, w1, s3⟩ ⟨rfl, hv⟩
      have hv' : (ns.map V.int)[j]? = some v := hv
      rw [List.getElem?_map] at hv'
      obtain ⟨z, hz, rfl⟩ := Option.map_eq_some_iff.mp hv'
      refine ⟨.int wh, rfl, _, _, rfl, rfl, .inr ⟨by decide, by decide⟩, .int z, rfl, z, rfl, _, _, rfl, rfl, .inl ⟨by decide, by decide⟩, _, _, rfl, rfl, .int z, rfl, _, _, rfl, rfl, .inr ⟨_, rfl, _, _, rfl, rfl, _, _, rfl, rfl, (by show (0 : Int) < 2305843009213693951; decide), ?_⟩⟩
      exact ⟨_, _, rfl, Int.emod_nonneg _ (by decide), Int.emod_lt_of_pos _ (by decide), s3⟩
    rintro σ H3 ⟨wh, y3, rfl, w0, w1, s3⟩
    refine ⟨.ref D, rfl, D, _, rfl, SqL.of (s3 _ _ e2), fun g ng => ⟨.int wh, rfl, (show (3 : Nat) ≤ sizeLine by decide), fun st nst => ?_⟩⟩
    have s4 := (sameNew (o := .lst (ks.map V.int).reverse) ng).trans (sameNew (o := .lst [.ref g, .int wh, .int 0]) nst)
    refine q _ st g ((s2.trans s3).trans s4) ⟨⟨wh, 0, ks.reverse, upd_same, upNew nst (by rw [upd_same, List.map_reverse]), w0, w1, Nat.le_refl _, by rw [List.length_reverse]; omega⟩, (ne_of_none upd_same nst).symm⟩
def spDraw : Sp := fun vs H Q _ => ∃ (st g : Addr) (t : Nat) (m : Int), vs = [.ref st, .int m] ∧ DV H st g t ∧ t < 1000000 ∧ 0 < m ∧ m ≤ 2 ^ 60 ∧
  ∀ (H' : Hp) (d : Int), 0 ≤ d → d < m → DV H' st g (t + 1) → Ext st g H H' → Q (.int d) H'
set_option maxHeartbeats 2000000 in
theorem ok_Dr {f : Addr} {fd : FuncData} (F : Fun K "_law_next" "_law_next" sDr f fd)
     :
    FnOk P w K mg base CX0 1 f fd ["_law_deck", "_law_many"] spDraw := by
  refine F.ok scDr (fun vs H Q E h => ?_) (fun cdv A outer s H vs Q E hr h => ?_)
  · obtain ⟨st, g, t, m, rfl, _⟩ := h; rfl
  · obtain ⟨st, g, t, m, rfl, hd, ht, hm, hm2, q⟩ := h
    have hu64 : (A.deeper (envOfC "_law_next" (defScope sDr) s.heap.objs.size f cdv)).units + 64 < cLine := by have := hr.un; omega
    refine ⟨_, pss_cons (ps_while PassesOwn.never (pt_cmpR (op_neD hu64) (pe_ix ix_list (pv 0) (pe_int) (fun _ _ => rfl)) (pe_lst (pa_nil)) (nomark _))
        (pss_cons (ps_set (i := 2) scDr.nd rfl (.inl rfl) (pe_bm0 PySem.F.plainAttrs_list PySem.F.slot_list_pop PySem.F.type_list_pop mt_pop (pe_ix ix_list (pv 0) (pe_int) (fun _ _ => rfl))))
        (pss_one (ps_if (pt_cmpR op_gt (pv 2) (pe_int) (nomark _))
          (pss_cons (ps_expr (pe_bm PySem.F.plainAttrs_list PySem.F.slot_list_append PySem.F.type_list_append mt_append (pe_ix ix_list (pv 0) (pe_int) (fun _ _ => rfl)) (pa_cons (pe_op op_fdivW (pv 2) (pv 1)) pa_nil)))
          (pss_one (ps_ret (pe_op op_mod (pv 2) (pv 1))))) pss_nil))))
      (pss_cons (ps_asg (pe_op op_add (pe_ix ix_list (pv 0) (pe_int) (fun _ _ => rfl)) (pe_int)) (pg_sub (pv 0) (pe_int) set_list))
      (pss_cons (ps_set (i := 3) scDr.nd rfl (.inl rfl) (pe_op op_add (pe_op op_mul (pe_ix ix_list (pv 0) (pe_int) (fun _ _ => rfl)) (pe_op op_add (pe_int) (pe_op op_mul (pe_int) (pe_ix ix_list (pv 0) (pe_int) (fun _ _ => rfl))))) (pe_op op_mul (pe_int) (pe_ix ix_list (pv 0) (pe_int) (fun _ _ => rfl)))))
      (pss_cons (ps_set (i := 3) scDr.nd rfl (.inl rfl) (pe_op op_mod (pv 3) (pe_int)))
      (pss_cons (ps_set (i := 3) scDr.nd rfl (.inl rfl) (pe_op op_mod (pe_op op_mul (pv 3) (pv 3)) (pe_int)))
      (pss_one (ps_ret (pe_op op_mod (pe_op op_fdiv (pe_op op_mod (pe_op op_mul (pv 3) (pv 3)) (pe_int)) (pe_int)) (pv 1)))))))), ?_⟩
    obtain ⟨wh, k, gr, hs, hg, w0, w1, hk, hl⟩ := hd.ex
    have nsg := hd.n1
    refine ⟨fun n σ H2 => ∃ (y2 : Option V) (gr2 : List Int), σ = [some (.ref st), some (.int m), y2, none] ∧ gr2.length = n ∧ H2 st = some (.lst [.ref g, .int wh, .int k]) ∧ H2 g = some (.lst (gr2.map V.int)) ∧ gr2.length ≤ 63 ∧ Ext st g H H2,
      ⟨gr.length, none, gr, rfl, rfl, hs, hg, hl, fun b o h _ _ => h⟩, ?_⟩
    rintro n σ H2 ⟨y2, gr2, rfl, rfl, hs2, hg2, hl2, x2⟩
    refine ⟨.ref st, rfl, st, _, 0, .ref g, rfl, rfl, SqL.of hs2, atI_nat (j := 0) rfl, Nat.zero_le _, fun p np => ⟨.list (gr2.map PyData.int), .list [], .lst (SqL.of (upNew np hg2)) (dp_ints gr2), .lst (SqL.of upd_same) .nil, shaped_ints gr2, by decide, _, rfl, ?_⟩⟩
    rw [eqv_empty]
    have hs3 := upNew np (o := .lst []) hs2
    have hg3 := upNew np (o := .lst []) hg2
    have x3 : Ext st g H (upd H2 p (.lst [])) := x2.trans (Ext.of (sameNew np))
    generalize upd H2 p (.lst []) = H3 at hs3 hg3 x3
    cases gr2 with
    | nil =>
      refine ⟨.ref st, rfl, st, _, 2, .int k, rfl, rfl, SqL.of hs3, atI_nat (j := 2) rfl, _, _, rfl, rfl, .ref st, rfl, st, _, 2, 2, rfl, rfl, hs3, rfl, ?_⟩
      have e4 : (upd H3 st (.lst [.ref g, .int wh, .int ((k : Int) + 1)])) st = some (.lst [.ref g, .int wh, .int ((k : Int) + 1)]) := upd_same
      have x4 : Ext st g H (upd H3 st (.lst [.ref g, .int wh, .int ((k : Int) + 1)])) := fun b o h n1 n2 => by rw [upd_ne n1]; exact x3 b o h n1 n2
      have d4 : DV (upd H3 st (.lst [.ref g, .int wh, .int ((k : Int) + 1)])) st g (t + 1) := ⟨⟨wh, k + 1, [], by rw [e4]; rfl, by rw [upd_ne nsg.symm]; exact hg3, w0, w1, by omega, by simp⟩, nsg⟩
      have r4 := SqL.of (K := K) e4
      refine ⟨.ref st, rfl, st, _, 1, .int wh, rfl, rfl, r4, atI_nat (j := 1) rfl, .ref st, rfl, st, _, 2, .int ((k : Int) + 1), rfl, rfl, r4, atI_nat (j := 2) rfl, _, _, rfl, rfl, .inl ⟨by decide, by decide⟩, _, _, rfl, rfl, _, _, rfl, rfl, .inl ⟨by omega, by omega⟩, .ref st, rfl, st, _, 2, .int ((k : Int) + 1), rfl, rfl, r4, atI_nat (j := 2) rfl, _, _, rfl, rfl, .inl ⟨by decide, by decide⟩, _, _, rfl, rfl, ?_⟩
      refine ⟨_, rfl, _, _, rfl, rfl, (by show (0 : Int) < 2305843009213693951; decide), ?_⟩
      dsimp only
      generalize hu : (wh * (48271 + 69621 * ((k : Int) + 1)) + 40692 * ((k : Int) + 1)) % 2305843009213693951 = u
      have hu1 : 0 ≤ u := by rw [← hu]; exact Int.emod_nonneg _ (by decide)
      have hu2 : u < 2305843009213693951 := by rw [← hu]; exact Int.emod_lt_of_pos _ (by decide)
      refine ⟨.int u, rfl, .int u, rfl, _, _, rfl, rfl, .inl ⟨by omega, by omega⟩, _, _, rfl, rfl, (by show (0 : Int) < 2305843009213693951; decide), ?_⟩
      dsimp only
      generalize hv : u * u % 2305843009213693951 = v
      have hv1 : 0 ≤ v := by rw [← hv]; exact Int.emod_nonneg _ (by decide)
      have hv2 : v < 2305843009213693951 := by rw [← hv]; exact Int.emod_lt_of_pos _ (by decide)
      refine ⟨.int v, rfl, .int v, rfl, _, _, rfl, rfl, .inl ⟨by omega, by omega⟩, _, _, rfl, rfl, (by show (0 : Int) < 4611686018427387847; decide), _, _, rfl, rfl, ⟨by decide, by decide⟩, .int m, rfl, _, _, rfl, rfl, hm, ?_⟩
      exact q _ _ (Int.emod_nonneg _ (by omega)) (Int.emod_lt_of_pos _ hm) d4 x4
    | cons b0 ls =>
      have hne : (b0 :: ls) ≠ [] := by simp
      refine ⟨fun σ' H' => ∃ (y2 : Option V) (gr3 : List Int), σ' = [some (.ref st), some (.int m), y2, none] ∧ gr3.length = ls.length ∧ H' st = some (.lst [.ref g, .int wh, .int k]) ∧ H' g = some (.lst (gr3.map V.int)) ∧ gr3.length ≤ 63 ∧ Ext st g H H', ?_, ?_⟩
      · rintro σ' H' ⟨y2, gr3, e1, e2, r3⟩
        exact ⟨ls.length, by simp, y2, gr3, e1, e2, r3⟩
      obtain ⟨z, hz⟩ : ∃ z, (b0 :: ls)[(b0 :: ls).length - 1]? = some z := ⟨_, List.getElem?_eq_getElem (by simp)⟩
      have hzv : ((b0 :: ls).map V.int)[((b0 :: ls).map V.int).length - 1]? = some (.int z) := by rw [List.length_map, List.getElem?_map, hz]; rfl
      have hdl : ((b0 :: ls).map V.int).dropLast = ((b0 :: ls).dropLast).map V.int := by rw [List.map_dropLast]
      refine ⟨.ref st, rfl, st, _, 0, .ref g, rfl, rfl, SqL.of hs3, atI_nat (j := 0) rfl, .inl ⟨rfl, _, SqL.of hg3⟩, g, _, .int z, rfl, rfl, hg3, hzv, ?_⟩
      rw [hdl]
      have ldl : ((b0 :: ls).dropLast).length = ls.length := by simp
      have hs4 : (upd H3 g (.lst (((b0 :: ls).dropLast).map V.int))) st = some (.lst [.ref g, .int wh, .int k]) := by rw [upd_ne nsg]; exact hs3
      have hg4 : (upd H3 g (.lst (((b0 :: ls).dropLast).map V.int))) g = some (.lst (((b0 :: ls).dropLast).map V.int)) := upd_same
      have x4 : Ext st g H (upd H3 g (.lst (((b0 :: ls).dropLast).map V.int))) := fun b o h n1 n2 => by rw [upd_ne n2]; exact x3 b o h n1 n2
      generalize upd H3 g (.lst (((b0 :: ls).dropLast).map V.int)) = H4 at hs4 hg4 x4
      refine ⟨.int z, rfl, _, _, rfl, rfl, _, rfl, ite2 (fun h1 => ?_) (fun h1 => ?_)⟩
      · refine ⟨.ref st, rfl, st, _, 0, .ref g, rfl, rfl, SqL.of hs4, atI_nat (j := 0) rfl, .inl ⟨rfl, _, SqL.of hg4⟩, .int z, rfl, .int m, rfl, _, _, rfl, rfl, wide_div (b := 61) hm (by omega) (by decide) (by decide), g, _, _, rfl, rfl, hg4, ?_, ?_⟩
        · rw [List.length_map, ldl]; simp at hl2; exact small (by omega)
        refine ⟨.int z, rfl, .int m, rfl, _, _, rfl, rfl, hm, ?_⟩
        refine q _ _ (Int.emod_nonneg _ (by omega)) (Int.emod_lt_of_pos _ hm) ⟨⟨wh, k, (b0 :: ls).dropLast ++ [z / m], by rw [upd_ne nsg]; exact hs4, ?_, w0, w1, by omega, ?_⟩, nsg⟩ (fun b o h n1 n2 => by rw [upd_ne n2]; exact x4 b o h n1 n2)
        · rw [upd_same, List.map_append]; rfl
        · rw [List.length_append, ldl]; simp at hl2 ⊢; omega
      · exact ⟨_, (b0 :: ls).dropLast, rfl, ldl, hs4, hg4, by rw [ldl]; simp at hl2; omega, x4⟩
end
end Pv

namespace Pv
open PySem PySem.Spec PyProof.Rows L2
abbrev sAm : Stmt := topS 43
theorem scAm : FnScope ["_law_deck", "_law_top"] ["_law_deck", "_law_top"] (defScope sAm) := ⟨rfl, rfl, rfl, by decide +kernel, rfl, by decide +kernel, by decide +kernel⟩
abbrev sIn : Stmt := topS 44
theorem scIn : FnScope ["_law_deck", "_law_most_posts", "_law_most_groups", "_law_top", "_law_many", "_law_capacities", "_law_groups", "_law_post", "_law_turn", "_law_rest", "_law_order", "_law_favorite", "_law_size"] ["_law_deck", "_law_most_posts", "_law_most_groups", "_law_top"] (defScope sIn) := ⟨rfl, rfl, rfl, by decide +kernel, rfl, by decide +kernel, by decide +kernel⟩
section
variable {P : Program} {w : World} {K : PySem.W.Frag} {mg : Str → Option Value} {base : Heap}
def spAm : Sp := fun vs H Q _ => ∃ (st g : Addr) (t : Nat) (top : Int), vs = [.ref st, .int top] ∧ DV H st g t ∧ t + 10 ≤ 1000000 ∧ 1 ≤ top ∧ top ≤ 10 ^ 12 ∧
  ∀ (H' : Hp) (d : Int) (t' : Nat), 1 ≤ d → d ≤ top → DV H' st g t' → t' ≤ t + 3 → Ext st g H H' → Q (.int d) H'
theorem ok_Am {f fDr : Addr} {fd fdDr : FuncData} (F : Fun K "_law_amount" "_law_amount" sAm f fd)
    (FDr : Fun K "_law_next" "_law_next" sDr fDr fdDr) (bDr : Binds K fdDr ["_law_deck", "_law_many"] []) (gDr : mg "_law_next" = some (.ref fDr)) (GDr : FnOk P w K mg base CX0 1 fDr fdDr ["_law_deck", "_law_many"] spDraw)
    (m_min : mg "min" = none) :
    FnOk P w K mg base CX0 2 f fd ["_law_deck", "_law_top"] spAm := by
  refine F.ok scAm (fun vs H Q E h => ?_) (fun cdv A outer s H vs Q E hr h => ?_)
  · obtain ⟨st, g, t, top, rfl, _⟩ := h; rfl
  · obtain ⟨st, g, t, top, rfl, hd, ht, ht1, ht2, q⟩ := h
    refine ⟨_, pss_one (ps_ret (pe_ix ix_list (pe_lst (pa_cons (pe_int) (pa_cons (pe_op op_add (pe_int) (pe_call GDr (hr.mono (by omega)) (by rfl) gDr FDr.kp bDr .nil pass0 (pa_cons (pv 0) (pa_cons (pe_callB (call_min2 rfl) (by rfl) m_min (by decide +kernel) (pa_cons (pv 1) (pa_cons (pe_int) pa_nil))) pa_nil)))) (pa_cons (pe_op op_add (pe_int) (pe_call GDr (hr.mono (by omega)) (by rfl) gDr FDr.kp bDr .nil pass0 (pa_cons (pv 0) (pa_cons (pv 1) pa_nil)))) (pa_cons (pv 1) pa_nil))))) (pe_call GDr (hr.mono (by omega)) (by rfl) gDr FDr.kp bDr .nil pass0 (pa_cons (pv 0) (pa_cons (pe_int) pa_nil))) (fun _ _ => rfl))), ?_⟩
    refine ⟨.ref st, rfl, .int top, rfl, _, _, rfl, st, g, t, _, rfl, hd, by omega, by split <;> omega, by split <;> omega, fun H1 d1 h10 h11 D1 X1 => ⟨_, _, rfl, rfl, ?_⟩⟩
    refine ⟨.ref st, rfl, .int top, rfl, st, g, t + 1, _, rfl, D1, by omega, by omega, by omega, fun H2 d2 h20 h21 D2 X2 => ⟨_, _, rfl, rfl, .int top, rfl, (show (4 : Nat) ≤ sizeLine by decide), fun Z nZ => ?_⟩⟩
    obtain ⟨o1, o2⟩ := D2.off nZ
    refine ⟨.ref st, rfl, st, g, t + 1 + 1, _, rfl, D2.new nZ, by omega, by decide, by decide, fun H3 d3 h30 h31 D3 X3 => ?_⟩
    have eZ := X3 _ _ upd_same o1 o2
    have hm1 : 1 + d1 ≤ top := by split at h11 <;> omega
    obtain ⟨z, hz, hz1, hz2⟩ : ∃ z : Int, atI [V.int 1, V.int (1 + d1), V.int (1 + d2), V.int top] d3 = some (.int z) ∧ 1 ≤ z ∧ z ≤ top := by
      obtain h | h | h | h : d3 = 0 ∨ d3 = 1 ∨ d3 = 2 ∨ d3 = 3 := by omega
      · exact ⟨1, by rw [h]; rfl, by omega, by omega⟩
      · exact ⟨1 + d1, by rw [h]; rfl, by omega, hm1⟩
      · exact ⟨1 + d2, by rw [h]; rfl, by omega, by omega⟩
      · exact ⟨top, by rw [h]; rfl, by omega, by omega⟩
    exact ⟨Z, _, _, _, rfl, rfl, SqL.of eZ, hz, q _ _ _ hz1 hz2 D3 (by omega) (((X1.trans X2).trans (Ext.of (sameNew nZ))).trans X3)⟩
def spInst (K : PySem.W.Frag) : Sp := fun vs H Q _ => ∃ (st g : Addr) (t : Nat) (pm gm top : Int), vs = [.ref st, .int pm, .int gm, .int top] ∧ DV H st g t ∧ t + 500 ≤ 1000000 ∧ 1 ≤ pm ∧ pm ≤ 6 ∧ 1 ≤ gm ∧ gm ≤ 10 ∧ 1 ≤ top ∧ top ≤ 3 * 10 ^ 11 ∧
  ∀ (H' : Hp) (p : Addr) (t' : Nat) (cs : List Int) (gs : List Gp), DV H' st g t' → t' ≤ t + 300 → Ext st g H H' → Dp K H' (.ref p) (dInst cs gs) → InsOk cs gs → (∀ g ∈ gs, g.1.Nodup) → (cs.length : Int) ≤ pm → (∀ x ∈ cs, x ≤ 3 * top) → (gs.length : Int) ≤ gm → (∀ g ∈ gs, g.2 ≤ top) → Q (.ref p) H'
set_option maxHeartbeats 8000000 in
theorem ok_In {f fDr fAm : Addr} {fd fdDr fdAm : FuncData} (F : Fun K "_law_instance" "_law_instance" sIn f fd)
    (FDr : Fun K "_law_next" "_law_next" sDr fDr fdDr) (bDr : Binds K fdDr ["_law_deck", "_law_many"] []) (gDr : mg "_law_next" = some (.ref fDr)) (GDr : FnOk P w K mg base CX0 1 fDr fdDr ["_law_deck", "_law_many"] spDraw)
    (FAm : Fun K "_law_amount" "_law_amount" sAm fAm fdAm) (bAm : Binds K fdAm ["_law_deck", "_law_top"] []) (gAm : mg "_law_amount" = some (.ref fAm)) (GAm : FnOk P w K mg base CX0 2 fAm fdAm ["_law_deck", "_law_top"] spAm)
    (m_range : mg "range" = none) (m_list : mg "list" = none) (m_len : mg "len" = none) (m_min : mg "min" = none) (m_tuple : mg "tuple" = none) :
    FnOk P w K mg base CX0 3 f fd ["_law_deck", "_law_most_posts", "_law_most_groups", "_law_top"] (spInst K) := by
  refine F.ok scIn (fun vs H Q E h => ?_) (fun cdv A outer s H vs Q E hr h => ?_)
  · obtain ⟨st, g, t, pm, gm, top, rfl, _⟩ := h; rfl
  · obtain ⟨st, g, t, pm, gm, top, rfl, hd, ht, hp1, hp6, hg1, hg9, ht1, ht2, q⟩ := h
    refine ⟨_, pss_cons (ps_set (i := 4) scIn.nd rfl (.inl rfl) (pe_op op_add (pe_int) (pe_call GDr (hr.mono (by omega)) (by rfl) gDr FDr.kp bDr .nil pass0 (pa_cons (pv 0) (pa_cons (pv 1) pa_nil)))))
      (pss_cons (ps_par (i := 5) (j := 6) rfl scIn.nd rfl rfl (by decide) rfl rfl (pa_cons (pe_lst (pa_nil)) (pa_cons (pe_lst (pa_nil)) pa_nil)) rfl)
      (pss_cons (ps_for PassesOwn.never rfl (pi_range1 (by rfl) m_range (pa_cons (pv 4) pa_nil)) (pg_name (i := 7) scIn.nd rfl (.inl rfl))
        (pss_one (ps_expr (pe_bm PySem.F.plainAttrs_list PySem.F.slot_list_append PySem.F.type_list_append mt_append (pv 5) (pa_cons (pe_call GAm (hr.mono (by omega)) (by rfl) gAm FAm.kp bAm .nil pass0 (pa_cons (pv 0) (pa_cons (pe_ix ix_list (pe_lst (pa_cons (pv 3) (pa_cons (pe_op op_mul (pe_int) (pv 3)) pa_nil))) (pe_call GDr (hr.mono (by omega)) (by rfl) gDr FDr.kp bDr .nil pass0 (pa_cons (pv 0) (pa_cons (pe_int) pa_nil))) (fun _ _ => rfl)) pa_nil))) pa_nil)))))
      (pss_cons (ps_for PassesOwn.never rfl (pi_range1 (by rfl) m_range (pa_cons (pe_op op_add (pe_int) (pe_call GDr (hr.mono (by omega)) (by rfl) gDr FDr.kp bDr .nil pass0 (pa_cons (pv 0) (pa_cons (pv 2) pa_nil)))) pa_nil)) (pg_name (i := 8) scIn.nd rfl (.inl rfl))
        (pss_cons (ps_set (i := 9) scIn.nd rfl (.inr rfl) (pe_listRg rfl (by rfl) m_list (prg_1 (by rfl) m_range (pv 4))))
        (pss_cons (ps_setLc (i := 10) (own := [("_law_post", 7)]) (g := gName 7) (tt := tYes) (te := tBM K "list" rPopAt (tVar 9) (tCons (tCall spDraw [] E0 (tCons (tVar 0) (tCons (tCB (rLenQ K) (tCons (tVar 9) tNil)) tNil))) tNil)) rfl scIn.nd rfl rfl (sw_true rfl rfl rfl (by decide +kernel)) (pi_range1 (by rfl) m_range (pa_cons (pv 4) pa_nil)) (blkOk_by (N := ["_law_deck", "_law_most_posts", "_law_most_groups", "_law_top", "_law_many", "_law_capacities", "_law_groups", "_law_post", "_law_turn", "_law_rest", "_law_order", "_law_favorite", "_law_size"]) (sc := defScope sIn) (by decide +kernel)) (fun _ _ _ _ _ => pg_name (i := 7) scIn.nd rfl (.inl rfl)) (fun _ _ _ _ _ => pts_nil) (fun _ _ _ _ _ => pe_bm PySem.F.plainAttrs_list PySem.F.slot_list_pop PySem.F.type_list_pop mt_popAt (pv 9) (pa_cons (pe_call GDr (hr.mono (by omega)) (by rfl) gDr FDr.kp bDr .nil pass0 (pa_cons (pv 0) (pa_cons (pe_callB call_lenQ (by rfl) m_len PySem.boot_len (pa_cons (pv 9) pa_nil)) pa_nil))) pa_nil)))
        (pss_cons (ps_set (i := 11) scIn.nd rfl (.inr rfl) (pe_call GDr (hr.mono (by omega)) (by rfl) gDr FDr.kp bDr .nil pass0 (pa_cons (pv 0) (pa_cons (pe_callB (call_min2 rfl) (by rfl) m_min (by decide +kernel) (pa_cons (pv 4) (pa_cons (pe_int) pa_nil))) pa_nil))))
        (pss_cons (ps_if (pt_cmpR op_gt (pe_call GDr (hr.mono (by omega)) (by rfl) gDr FDr.kp bDr .nil pass0 (pa_cons (pv 0) (pa_cons (pe_int) pa_nil))) (pe_int) (nomark _))
          (pss_one (ps_set (i := 10) scIn.nd rfl (.inl rfl) (pe_op op_cat (pe_lst (pa_cons (pv 11) pa_nil)) (pe_lc (own := [("_law_post", 7)]) (g := gName 7) (tt := tTest (tOp rNe (tVar 7) (tVar 11))) (te := tVar 7) rfl scIn.nd (pi_list (pv 10)) (blkOk_by (N := ["_law_deck", "_law_most_posts", "_law_most_groups", "_law_top", "_law_many", "_law_capacities", "_law_groups", "_law_post", "_law_turn", "_law_rest", "_law_order", "_law_favorite", "_law_size"]) (sc := defScope sIn) (by decide +kernel)) (fun _ _ _ _ _ => pg_name (i := 7) scIn.nd rfl (.inl rfl)) (fun _ _ _ _ _ => pts_one (pt_cmpR op_ne (pv 7) (pv 11) (nomark _))) (fun _ _ _ _ _ => pv 7))))) pss_nil)
        (pss_cons (ps_set (i := 12) scIn.nd rfl (.inl rfl) (pe_ix ix_list (pe_lst (pa_cons (pv 4) (pa_cons (pe_callB (call_min2 rfl) (by rfl) m_min (by decide +kernel) (pa_cons (pv 4) (pa_cons (pe_int) pa_nil))) (pa_cons (pe_call GDr (hr.mono (by omega)) (by rfl) gDr FDr.kp bDr .nil pass0 (pa_cons (pv 0) (pa_cons (pe_op op_add (pv 4) (pe_int)) pa_nil))) pa_nil)))) (pe_call GDr (hr.mono (by omega)) (by rfl) gDr FDr.kp bDr .nil pass0 (pa_cons (pv 0) (pa_cons (pe_int) pa_nil))) (fun _ _ => rfl)))
        (pss_one (ps_expr (pe_bm PySem.F.plainAttrs_list PySem.F.slot_list_append PySem.F.type_list_append mt_append (pv 6) (pa_cons (pe_tup (pa_cons (pe_callTy call_tupQ (by rfl) m_tuple (by decide +kernel) (pa_cons (pe_slice sl_list (pv 10) po_none (po_some (pv 12))) pa_nil)) (pa_cons (pe_call GAm (hr.mono (by omega)) (by rfl) gAm FAm.kp bAm .nil pass0 (pa_cons (pv 0) (pa_cons (pv 3) pa_nil))) pa_nil))) pa_nil))))))))))
      (pss_one (ps_ret (pe_tup (pa_cons (pe_callTy call_tupQ (by rfl) m_tuple (by decide +kernel) (pa_cons (pv 5) pa_nil)) (pa_cons (pe_callTy call_tupQ (by rfl) m_tuple (by decide +kernel) (pa_cons (pv 6) pa_nil)) pa_nil)))))))), ?_⟩
    refine ⟨.ref st, rfl, .int pm, rfl, st, g, t, _, rfl, hd, by omega, by omega, by omega, fun H1 d1 h10 h11 D1 X1 => ⟨_, _, rfl, rfl, ?_⟩⟩
    obtain ⟨n, hn⟩ : ∃ n : Nat, 1 + d1 = (n : Int) := ⟨(1 + d1).toNat, by omega⟩
    have hn6 : 1 ≤ n ∧ n ≤ 6 := by omega
    dsimp only
    rw [hn]
    refine ⟨Nat.zero_le _, fun Ca nCa => ⟨Nat.zero_le _, fun Rw nRw => ⟨_, _, rfl, ?_⟩⟩⟩
    have oCa := D1.off nCa
    have fCa := D1.nil X1 nCa
    have D1a := D1.new nCa (o := .lst [])
    have oRw := D1a.off nRw
    have fRw := D1a.nil (X1.trans (Ext.of (sameNew nCa))) nRw
    have D1b := D1a.new nRw (o := .lst [])
    have nCR : Ca ≠ Rw := ne_of_none upd_same nRw
    have x1b := (X1.trans (Ext.of (sameNew (o := .lst []) nCa))).trans (Ext.of (sameNew (o := .lst []) nRw))
    -- capacities
    refine ⟨.int n, rfl, n, rfl, by omega, by omega, for_it (walk_range (lo := 0) (n := (n : Int).toNat))
      (fun j σ H2 => ∃ (y7 : Option V) (t2 : Nat) (ls : List Int), σ = [some (.ref st), some (.int pm), some (.int gm), some (.int top), some (.int n), some (.ref Ca), some (.ref Rw), y7, none, none, none, none, none] ∧ DV H2 st g t2 ∧ t2 ≤ t + 1 + 4 * j ∧ Ext st g H H2 ∧ H2 Rw = some (.lst []) ∧ H2 Ca = some (.lst (ls.map V.int)) ∧ ls.length = j ∧ ∀ x ∈ ls, 1 ≤ x ∧ x ≤ 3 * top)
      ⟨none, t + 1, [], rfl, D1b, by omega, x1b, upd_same, upNew nRw upd_same, rfl, fun x h => by simp at h⟩ (fun _ _ _ _ _ => trivial) ?_ ?_⟩
    · rintro j v σ H2 H3 hltj ⟨y7, t2, ls, rfl, d2, ht2', x2, eR2, eC2, l2, b2⟩ ⟨rfl, rfl⟩
      have hj6 : j < 6 := by omega
      refine ⟨.ref Ca, rfl, .inl ⟨rfl, _, SqL.of eC2⟩, .ref st, rfl, .int top, rfl, .int top, rfl, _, _, rfl, rfl, .inl ⟨by decide, by decide⟩, (show (2 : Nat) ≤ sizeLine by decide), fun Z nZ => ⟨.ref st, rfl, st, g, t2, _, rfl, d2.new nZ, by omega, by decide, by decide, fun H4 d4 h40 h41 D4 X4 => ?_⟩⟩
      obtain ⟨oZ1, oZ2⟩ := d2.off nZ
      have eZ := X4 _ _ upd_same oZ1 oZ2
      have x4 := (x2.trans (Ext.of (sameNew nZ))).trans X4
      have eC4 := X4 _ _ (upNew nZ eC2) oCa.1 oCa.2
      have eR4 := X4 _ _ (upNew nZ eR2) oRw.1 oRw.2
      obtain ⟨tz, htz, htz1, htz2⟩ : ∃ tz : Int, atI [V.int top, V.int (3 * top)] d4 = some (.int tz) ∧ 1 ≤ tz ∧ tz ≤ 3 * top := by
        obtain h | h : d4 = 0 ∨ d4 = 1 := by omega
        · exact ⟨top, by rw [h]; rfl, by omega, by omega⟩
        · exact ⟨3 * top, by rw [h]; rfl, by omega, by omega⟩
      refine ⟨Z, _, _, _, rfl, rfl, SqL.of eZ, htz, st, g, t2 + 1, tz, rfl, D4, by omega, htz1, by omega, fun H5 am t5 ha1 ha2 D5 ht5 X5 => ?_⟩
      have eC5 := X5 _ _ eC4 oCa.1 oCa.2
      refine ⟨Ca, _, _, rfl, rfl, eC5, by rw [List.length_map]; exact small (by omega), _, t5, ls ++ [am], rfl, D5.put oCa.1 oCa.2, by omega, ?_, by rw [upd_ne nCR.symm]; exact X5 _ _ eR4 oRw.1 oRw.2, ?_, by simp [l2], ?_⟩
      · exact fun b o e n1 n2 => by rw [upd_ne (ne_of_none e fCa)]; exact (x4.trans X5) b o e n1 n2
      · rw [upd_same, List.map_append]; rfl
      · intro y hy
        rw [List.mem_append] at hy
        rcases hy with h | h
        · exact b2 y h
        · simp only [List.mem_singleton] at h; omega
    rintro σ H2 ⟨y7, t2, cs, rfl, d2, ht2', x2, eR2, eC2, l2, b2⟩
    have lcs : cs.length = n := by omega
    -- groups
    refine ⟨.ref st, rfl, .int gm, rfl, st, g, t2, _, rfl, d2, by omega, by omega, by omega, fun H3 d3 h30 h31 D3 X3 => ⟨_, _, rfl, rfl, ?_⟩⟩
    have x3 := x2.trans X3
    refine ⟨1 + d3, rfl, by omega, by omega, for_it (walk_range (lo := 0) (n := (1 + d3).toNat))
      (fun i σ H4 => ∃ (z7 z8 z9 z10 z11 z12 : Option V) (t4 : Nat) (vs : List V) (gs : List Gp), σ = [some (.ref st), some (.int pm), some (.int gm), some (.int top), some (.int n), some (.ref Ca), some (.ref Rw), z7, z8, z9, z10, z11, z12] ∧ DV H4 st g t4 ∧ t4 ≤ t2 + 1 + 20 * i ∧ Ext st g H H4 ∧ H4 Ca = some (.lst (cs.map V.int)) ∧
        H4 Rw = some (.lst vs) ∧ DpAll K H4 vs (gs.map dGrp) ∧ gs.length = i ∧ ∀ g ∈ gs, g.1.length ≤ 6 ∧ (∀ p ∈ g.1, 0 ≤ p ∧ p < (n : Int)) ∧ (1 ≤ g.2 ∧ g.2 ≤ top) ∧ g.1.Nodup)
      ⟨_, none, none, none, none, none, t2 + 1, [], [], rfl, D3, by omega, x3, X3 _ _ eC2 oCa.1 oCa.2, X3 _ _ eR2 oRw.1 oRw.2, .nil, rfl, fun g h => by simp at h⟩ (fun _ _ _ _ _ => trivial) ?_ ?_⟩
    · rintro i v σ H4 H4' hlt ⟨z7, z8, z9, z10, z11, z12, t4, vs, gs, rfl, d4, ht4, x4, eC4, eR4, hvs, lgs, bgs⟩ ⟨rfl, rfl⟩
      have hi10 : i < 10 := by omega
      have hvl : vs.length = i := by rw [DpAll.len hvs, List.length_map, lgs]
      refine ⟨.int n, rfl, n, rfl, RgOk.of_le (by omega) (by omega) (by omega) (by omega), fun Nm nNm => ?_⟩
      have oNm := d4.off nNm
      have fNm := d4.nil x4 nNm
      have d5 := d4.new nNm (o := .lst (rgV 0 n))
      have eN5 : (upd H4' Nm (.lst (rgV 0 n))) Nm = some (.lst ((upTo n).map V.int)) := by rw [upd_same, rgV_upTo]
      have eC5 := upNew nNm (o := .lst (rgV 0 n)) eC4
      have eR5 := upNew nNm (o := .lst (rgV 0 n)) eR4
      have x5 := x4.trans (Ext.of (sameNew (o := .lst (rgV 0 n)) nNm))
      have tk5 : TupK H4' (upd H4' Nm (.lst (rgV 0 n))) := TupK.new nNm
      have nCN : Ca ≠ Nm := ne_of_none eC4 nNm
      have nRN : Rw ≠ Nm := ne_of_none eR4 nNm
      generalize upd H4' Nm (.lst (rgV 0 n)) = H5 at d5 eN5 eC5 eR5 x5 tk5
      refine ⟨.int n, rfl, n, rfl, by omega, by omega, fun Ch nCh => lc_it (walk_range (lo := 0) (n := (n : Int).toNat))
        (fun j H7 => ∃ (ns ls : List Int), DV H7 st g (t4 + j) ∧ Ext st g H H7 ∧ TupK H4' H7 ∧ H7 Ca = some (.lst (cs.map V.int)) ∧ H7 Rw = some (.lst vs) ∧ H7 Nm = some (.lst (ns.map V.int)) ∧ ns.length + j = n ∧ (∀ x ∈ ns, 0 ≤ x ∧ x < (n : Int)) ∧
          H7 Ch = some (.lst (ls.map V.int)) ∧ ls.length = j ∧ (∀ x ∈ ls, 0 ≤ x ∧ x < (n : Int)) ∧ (ls ++ ns).Nodup)
        ⟨upTo n, [], d5.new nCh, x5.trans (Ext.of (sameNew nCh)), tk5.trans (TupK.new nCh), upNew nCh eC5, upNew nCh eR5, upNew nCh eN5, upTo_len n, fun x h => upTo_mem h, upd_same, rfl, (fun x h => by simp at h), by simpa using upTo_nodup n⟩ (fun _ _ _ _ => trivial) ?_ ?_⟩
      · rintro j v H7 H8 hltj ⟨ns, ls, d7, x7, tk7, eC7, eR7, eN7, lN7, bN7, eO7, lO7, bO7, hnd⟩ ⟨rfl, rfl⟩
        have oCh := d5.off nCh
        have fCh := d5.nil x5 nCh
        have nNC : Nm ≠ Ch := ne_of_none eN5 nCh
        have nCC : Ca ≠ Ch := ne_of_none eC5 nCh
        have nRC : Rw ≠ Ch := ne_of_none eR5 nCh
        refine ⟨rfl, .ref Nm, rfl, .inl ⟨rfl, _, SqL.of eN7⟩, .ref st, rfl, .ref Nm, rfl, Nm, _, rfl, .inl (SqL.of eN7), st, g, t4 + j, _, rfl, d7, by omega, by rw [List.length_map]; omega, by rw [List.length_map]; omega, fun H9 d9 h90 h91 D9 X9 => ?_⟩
        rw [List.length_map] at h91
        have eN9 := X9 _ _ eN7 oNm.1 oNm.2
        have eO9 := X9 _ _ eO7 oCh.1 oCh.2
        have hk : d9.toNat < ns.length := by omega
        have eOz : (upd H9 Nm (.lst ((ns.map V.int).eraseIdx d9.toNat))) Ch = some (.lst (ls.map V.int)) := by rw [upd_ne nNC.symm]; exact eO9
        refine ⟨Nm, _, d9, d9.toNat, .int ns[d9.toNat], rfl, rfl, eN9, by omega, by omega, seqIndex_of h90 (by rw [List.length_map]; omega), by rw [List.getElem?_map, List.getElem?_eq_getElem hk]; rfl, _, eOz, by rw [List.length_map]; exact small (by omega),
          ns.eraseIdx d9.toNat, ls ++ [ns[d9.toNat]], (D9.put oNm.1 oNm.2).put oCh.1 oCh.2, ?_, ((tk7.trans (d7.tup X9)).trans (TupK.put eN9)).trans (TupK.put eOz), ?_, ?_, ?_, ?_, ?_, ?_, by simp [lO7], ?_, nodup_step hk hnd⟩
        · exact fun b o e n1 n2 => by rw [upd_ne (ne_of_none e fCh), upd_ne (ne_of_none e fNm)]; exact (x7.trans X9) b o e n1 n2
        · rw [upd_ne nCC, upd_ne nCN]; exact X9 _ _ eC7 oCa.1 oCa.2
        · rw [upd_ne nRC, upd_ne nRN]; exact X9 _ _ eR7 oRw.1 oRw.2
        · rw [upd_ne nNC, upd_same, erase_map]
        · rw [List.length_eraseIdx_of_lt hk]; omega
        · exact fun x hx => bN7 x (List.mem_of_mem_eraseIdx hx)
        · rw [upd_same, List.map_append]; rfl
        · intro x hx
          rw [List.mem_append] at hx
          rcases hx with h | h
          · exact bO7 x h
          · simp at h; subst h; exact bN7 _ (List.getElem_mem hk)
      rintro H7 ⟨ns, ls, d7, x7, tk7, eC7, eR7, eN7, lN7, bN7, eO7, lO7, bO7, hnd⟩
      have hnn : (n : Int).toNat = n := by omega
      rw [hnn] at d7 lO7
      have oCh := d5.off nCh
      have hnl : ls.Nodup := (List.nodup_append.mp hnd).1
      -- favorite
      refine ⟨.ref st, rfl, .int n, rfl, _, _, rfl, st, g, t4 + n, _, rfl, d7, by omega, by split <;> omega, by split <;> omega, fun H8 fv h80 h81 D8 X8 => ?_⟩
      have hfv : fv < (n : Int) := by split at h81 <;> omega
      have eO8 := X8 _ _ eO7 oCh.1 oCh.2
      have eC8 := X8 _ _ eC7 oCa.1 oCa.2
      have eR8 := X8 _ _ eR7 oRw.1 oRw.2
      have x8 := x7.trans X8
      have tk8 := tk7.trans (d7.tup X8)
      dsimp only [gName]
      refine seq_with (t := tIfS _ _ _) (fun σ1 H9 => ∃ (Or : Addr) (ord : List Int), σ1 = [some (.ref st), some (.int pm), some (.int gm), some (.int top), some (.int n), some (.ref Ca), some (.ref Rw), z7, some (.int (0 + (i : Nat))), some (.ref Nm), some (.ref Or), some (.int fv), z12] ∧ DV H9 st g (t4 + n + 2) ∧ Ext st g H H9 ∧ TupK H4' H9 ∧ H9 Ca = some (.lst (cs.map V.int)) ∧ H9 Rw = some (.lst vs) ∧ H9 Or = some (.lst (ord.map V.int)) ∧ Or ≠ st ∧ Or ≠ g ∧ (∀ x ∈ ord, 0 ≤ x ∧ x < (n : Int)) ∧ ord.Nodup) ?rest (fun rest => ?main)
      case main =>
        refine ⟨.ref st, rfl, st, g, t4 + n + 1, _, rfl, D8, by omega, by decide, by decide, fun H9 d9 h90 h91 D9 X9 => ⟨_, _, rfl, rfl, _, rfl, ite2 (fun h1 => ?_) (fun h1 => ?_)⟩⟩
        · have eO9 := X9 _ _ eO8 oCh.1 oCh.2
          refine ⟨.int fv, rfl, (show (1 : Nat) ≤ sizeLine by decide), fun p1 n1 => ⟨.ref Ch, rfl, Ch, rfl, ⟨_, SqL.of (upNew n1 eO9)⟩, fun D nD => lc_it (walk_list (K := K) (a := Ch) (xs := ls.map V.int))
            (fun k H10 => Same (upd H9 p1 (.lst [.int fv])) H10 ∧ H10 D = some (.lst (((ls.take k).filter (fun x => decide (x ≠ fv))).map V.int))) ⟨sameNew nD, upd_same⟩ (fun k H10 _ h => SqL.of (h.1 _ _ (upNew n1 eO9))) ?_ ?_⟩⟩
          · rintro k v H10 H11 hltk ⟨s10, e10⟩ ⟨rfl, hv⟩
            have hv' : (ls.map V.int)[k]? = some v := hv
            rw [List.getElem?_map] at hv'
            obtain ⟨z, hz, rfl⟩ := Option.map_eq_some_iff.mp hv'
            rw [List.length_map] at hltk
            refine ⟨rfl, .int z, rfl, .int fv, rfl, rfl, _, rfl, ite2 (fun h1 => ?_) (fun h1 => ?_)⟩
            · have h1 : z ≠ fv := by intro e; rw [e] at h1; simp at h1
              refine ⟨.int z, rfl, _, e10, ?_, samePut s10 nD, ?_⟩
              · rw [List.length_map]; exact small (Nat.le_trans (List.length_filter_le ..) (by rw [List.length_take]; omega))
              · rw [upd_same, take_snoc hz, List.filter_append, List.map_append]; simp [h1]
            · have h1 : z = fv := by
                by_cases e : z = fv
                · exact e
                · exact absurd (by simp [e]) h1
              refine ⟨s10, ?_⟩
              rw [e10, take_snoc hz, List.filter_append]; simp [h1]
          rintro H10 ⟨s10, e10⟩
          rw [List.length_map, List.take_length] at e10
          refine ⟨p1, D, _, _, rfl, rfl, s10 _ _ upd_same, e10, ?_, fun Or nOr => ?_⟩
          · rw [List.length_map]
            have h2 := List.length_filter_le (fun x => decide (x ≠ fv)) ls
            have := small (n := 10) (by omega)
            simp at h2 ⊢
            omega
          have s11 := ((sameNew (o := .lst [.int fv]) n1).trans s10).trans (sameNew (o := .lst ([.int fv] ++ (ls.filter (fun x => decide (x ≠ fv))).map V.int)) nOr)
          have D11 := D9.same s11
          have oOr := (D9.same ((sameNew (o := .lst [.int fv]) n1).trans s10)).off nOr
          refine rest _ _ ⟨Or, fv :: ls.filter (fun x => decide (x ≠ fv)), rfl, D11, (x8.trans X9).trans (Ext.of s11), (tk8.trans (D8.tup X9)).trans (TupK.of s11), s11 _ _ (X9 _ _ eC8 oCa.1 oCa.2), s11 _ _ (X9 _ _ eR8 oRw.1 oRw.2), by rw [upd_same]; rfl, oOr.1, oOr.2, ?_, ?_⟩
          · intro x hx
            rcases List.mem_cons.mp hx with rfl | hx
            · exact ⟨h80, hfv⟩
            · exact bO7 x (List.mem_filter.mp hx).1
          · refine List.nodup_cons.mpr ⟨fun z => ?_, hnl.filter _⟩
            have := (List.mem_filter.mp z).2
            simp at this
        · exact rest _ _ ⟨Ch, ls, rfl, D9, x8.trans X9, tk8.trans (D8.tup X9), X9 _ _ eC8 oCa.1 oCa.2, X9 _ _ eR8 oRw.1 oRw.2, X9 _ _ eO8 oCh.1 oCh.2, oCh.1, oCh.2, bO7, hnl⟩
      case rest =>
      rintro σ1 H9 ⟨Or, ord, rfl, D9, x9, tk9, eC9, eR9, eO9, oO1, oO2, bO, ndO⟩
      -- size
      refine ⟨.int n, rfl, .int n, rfl, _, _, rfl, .ref st, rfl, .int n, rfl, _, _, rfl, rfl, st, g, t4 + n + 2, _, rfl, D9, by omega, by omega, by omega, fun H10 sz h100 h101 D10 X10 => ?_⟩
      refine ⟨(show (3 : Nat) ≤ sizeLine by decide), fun Z nZ => ⟨.ref st, rfl, st, g, t4 + n + 2 + 1, _, rfl, D10.new nZ, by omega, by decide, by decide, fun H11 kk h110 h111 D11 X11 => ?_⟩⟩
      obtain ⟨oZ1, oZ2⟩ := D10.off nZ
      have eZ := X11 _ _ upd_same oZ1 oZ2
      have x911 := (X10.trans (Ext.of (sameNew nZ))).trans X11
      have eC11 := x911 _ _ eC9 oCa.1 oCa.2
      have eR11 := x911 _ _ eR9 oRw.1 oRw.2
      have eO11 := x911 _ _ eO9 oO1 oO2
      have x11 := x9.trans x911
      have tk11 := tk9.trans (D9.tup x911)
      obtain ⟨k, hk, hk6⟩ : ∃ k : Nat, atI [V.int n, V.int (if (2 : Int) < n then 2 else n), V.int sz] kk = some (.int k) ∧ k ≤ 6 := by
        obtain h | h | h : kk = 0 ∨ kk = 1 ∨ kk = 2 := by omega
        · exact ⟨n, by rw [h]; rfl, by omega⟩
        · by_cases h2 : (2 : Int) < n
          · exact ⟨2, by rw [h, if_pos h2]; rfl, by omega⟩
          · exact ⟨n, by rw [h, if_neg h2]; rfl, by omega⟩
        · exact ⟨sz.toNat, by rw [h, show ((sz.toNat : Nat) : Int) = sz by omega]; rfl, by omega⟩
      refine ⟨Z, _, _, _, rfl, rfl, SqL.of eZ, hk, ?_⟩
      -- groups.append
      have hcut : cutV (ord.map V.int) none (some (k : Int)) = (ord.take k).map V.int := by rw [List.map_take]; exact cut_to _ k
      refine ⟨.ref Rw, rfl, .inl ⟨rfl, _, SqL.of eR11⟩, .ref Or, rfl, .int k, rfl, _, rfl, Or, _, rfl, SqL.of eO11, fun W nW => ?_⟩
      rw [hcut]
      refine ⟨W, _, rfl, .inl ⟨SqL.of upd_same, fun Tp nTp => ?_⟩⟩
      have s12 := (sameNew (o := .lst ((ord.take k).map V.int)) nW).trans (sameNew (o := .tup ((ord.take k).map V.int)) nTp)
      refine ⟨.ref st, rfl, .int top, rfl, st, g, t4 + n + 2 + 1 + 1, top, rfl, D11.same s12, by omega, by omega, by omega, fun H13 am t13 ha1 ha2 D13 ht13 X13 => ⟨(show (2 : Nat) ≤ sizeLine by decide), fun Gr nGr => ?_⟩⟩
      have eR13 := X13 _ _ (s12 _ _ eR11) oRw.1 oRw.2
      have eC13 := X13 _ _ (s12 _ _ eC11) oCa.1 oCa.2
      have eF := upNew nGr (o := .tup [.ref Tp, .int am]) eR13
      have tk13 := (tk11.trans (TupK.of s12)).trans ((D11.same s12).tup X13)
      have sT : SqT K H13 Tp ((ord.take k).map V.int) := ((D11.same s12).tup X13).sq (SqT.of upd_same)
      have tkz : TupK H13 (upd (upd H13 Gr (.tup [.ref Tp, .int am])) Rw (.lst (vs ++ [.ref Gr]))) := (TupK.new nGr).trans (TupK.put eF)
      refine ⟨Rw, vs, _, rfl, rfl, eF, by rw [hvl]; exact small (by omega), _, _, _, _, _, _, t13, vs ++ [.ref Gr], gs ++ [(ord.take k, am)], rfl, (D13.new nGr).put oRw.1 oRw.2, by omega, ?_, by rw [upd_ne nCR]; exact upNew nGr eC13, upd_same, ?_, by simp [lgs], ?_⟩
      · exact fun b o e n1 n2 => by rw [upd_ne (ne_of_none e fRw)]; exact (((x11.trans (Ext.of s12)).trans X13).trans (Ext.of (sameNew nGr))) b o e n1 n2
      · rw [List.map_append]
        refine DpAll.snoc ((tk13.trans tkz).dpAll _ _ (to_grps _) hvs) (.tup (SqT.of ?_) (.cons (dI_sq (tkz.sq sT)) (.cons (.int _) .nil)))
        rw [upd_ne (ne_of_none eR13 nGr).symm]
        exact upd_same
      · intro g' hg'
        rw [List.mem_append] at hg'
        rcases hg' with h | h
        · exact bgs g' h
        · simp only [List.mem_singleton] at h
          subst h
          exact ⟨by rw [List.length_take]; omega, fun x hx => bO x (List.mem_of_mem_take hx), ⟨ha1, ha2⟩, (List.take_sublist k ord).nodup ndO⟩
    · rintro σ H4 ⟨z7, z8, z9, z10, z11, z12, t4, vs, gs, rfl, d4, ht4, x4, eC4, eR4, hvs, lgs, bgs⟩
      refine ⟨.ref Ca, rfl, Ca, _, rfl, .inl ⟨SqL.of eC4, fun Ct nCt => ⟨.ref Rw, rfl, Rw, _, rfl, .inl ⟨SqL.of (upNew nCt eR4), fun Gt nGt => ⟨(show (2 : Nat) ≤ sizeLine by decide), fun In nIn => ?_⟩⟩⟩⟩⟩
      have tkz : TupK H4 (upd (upd (upd H4 Ct (.tup (cs.map V.int))) Gt (.tup vs)) In (.tup [.ref Ct, .ref Gt])) := ((TupK.new nCt).trans (TupK.new nGt)).trans (TupK.new nIn)
      refine q _ In t4 cs gs (((d4.new nCt).new nGt).new nIn) (by omega) (((x4.trans (Ext.of (sameNew nCt))).trans (Ext.of (sameNew nGt))).trans (Ext.of (sameNew nIn)))
        (.tup (SqT.of upd_same) (.cons (dI_sq (((TupK.new nGt).trans (TupK.new nIn)).sq (SqT.of upd_same))) (.cons (.tup (SqT.of (upNew nIn upd_same)) (tkz.dpAll _ _ (to_grps _) hvs)) .nil)))
        ⟨by omega, by omega, fun x hx => by have := b2 x hx; omega, by omega, by omega, ?_⟩ (fun g hg => (bgs g hg).2.2.2) (by omega) (fun x hx => (b2 x hx).2) (by omega) (fun g hg => (bgs g hg).2.2.1.2)
      rw [lcs]
      exact fun g hg => ⟨(bgs g hg).1, (bgs g hg).2.1, (bgs g hg).2.2.1.1, by have := (bgs g hg).2.2.1.2; omega⟩
end
end Pv

namespace Pv
open PySem PySem.Spec PyProof.Rows L2
abbrev sSame : Stmt := topS 42
theorem scSame : FnScope ["_law_found", "_law_due", "_law_k"] ["_law_found", "_law_due"] (defScope sSame) := ⟨rfl, rfl, rfl, by decide +kernel, rfl, by decide +kernel, by decide +kernel⟩
mutual
def plain : PyData → Bool
  | .none | .int _ | .bool _ | .str _ => true
  | .list xs | .tuple xs => decide (xs.length ≤ 1000) && plainAll xs
  | _ => false
def plainAll : List PyData → Bool
  | [] => true
  | x :: xs => plain x && plainAll xs
end
theorem plainAll_at : ∀ {xs : List PyData} {i : Nat} {d : PyData}, plainAll xs = true → xs[i]? = some d → plain d = true
  | [], _, _, _, e => by simp at e
  | x :: xs, 0, d, h, e => by simp [plainAll] at h e; subst e; exact h.1
  | x :: xs, i + 1, d, h, e => by simp [plainAll] at h e; exact plainAll_at h.2 e
theorem depthAll_at : ∀ {xs : List PyData} {i : Nat} {d : PyData}, xs[i]? = some d → d.depth ≤ PyData.depthAll xs
  | [], _, _, e => by simp at e
  | x :: xs, 0, d, e => by simp at e; subst e; simp only [PyData.depthAll]; omega
  | x :: xs, i + 1, d, e => by
    have := depthAll_at (xs := xs) (i := i) (d := d) (by simpa using e)
    simp only [PyData.depthAll]; omega
inductive SeqAs (K : PySem.W.Frag) (H : Hp) (a : Addr) (xs : List V) : String → Prop
  | l : SqL K H a xs → SeqAs K H a xs "list"
  | t : SqT K H a xs → SeqAs K H a xs "tuple"
section
variable {K : PySem.W.Frag} {H H' : Hp} {a : Addr} {xs : List V} {T : String}
theorem SeqAs.same (h : SeqAs K H a xs T) (s : Same H H') : SeqAs K H' a xs T := by
  cases h with
  | l h => exact .l (s.seq h)
  | t h => exact .t ((TupK.of s).sq h)
theorem SeqAs.ty (h : SeqAs K H a xs T) : TyX K H (.ref a) (.type T) := by
  cases h with
  | l h => exact ty_sqL h
  | t h => exact ty_sq h
theorem SeqAs.or (h : SeqAs K H a xs T) : SqL K H a xs ∨ SqT K H a xs := by
  cases h with
  | l h => exact .inl h
  | t h => exact .inr h
theorem SeqAs.ix (h : SeqAs K H a xs T) {j : Nat} {v : V} {Q : VK} (e : xs[j]? = some v) (q : Q v H) : rIx K (.ref a) (.int j) H Q := by
  cases h with
  | l h => exact .inl ⟨a, xs, _, v, rfl, rfl, h, atI_nat e, q⟩
  | t h => exact .inr (.inl ⟨a, xs, _, v, rfl, rfl, h, atI_nat e, q⟩)
theorem SeqAs.kit (h : SeqAs K H a xs T) (S : String) (hS : S = "list" ∨ S = "tuple") : PySem.W.kitOne K (.type T) (.type S) = some (T == S) := by
  cases h <;> rcases hS with rfl | rfl <;> exact kit_ty (by decide +kernel)
theorem SeqAs.kits (h : SeqAs K H a xs T) : PySem.W.kitAny K (.type T) [.type "tuple", .type "list"] = some true := by
  cases h with
  | l h => exact kitAny_cons (kit_ty (b := "tuple") (r := false) (by decide +kernel)) (fun _ => kitAny_cons (kit_ty (b := "list") (r := true) (by decide +kernel)) (fun z => by cases z) (fun _ => rfl)) (fun z => by cases z)
  | t h => exact kitAny_cons (kit_ty (b := "tuple") (r := true) (by decide +kernel)) (fun z => by cases z) (fun _ => rfl)
end
section
variable {P : Program} {w : World} {K : PySem.W.Frag} {mg : Str → Option Value} {base : Heap}
def spS (K : PySem.W.Frag) : Nat → Sp
  | 0 => fun _ _ _ _ => False
  | n + 1 => fun vs H Q _ => ∃ (x y : V) (d : PyData), vs = [x, y] ∧ Dp K H x d ∧ Dp K H y d ∧ plain d = true ∧ d.depth ≤ n ∧ ∀ H', Same H H' → Q (.bl true) H'
mutual
theorem same_dp {H H' : Hp} (s : Same H H') : ∀ {d : PyData} {v : V}, plain d = true → Dp K H v d → Dp K H' v d
  | .none, _, _, h => by cases h; exact .non
  | .int _, _, _, h => by cases h; exact .int _
  | .list xs, _, t, h => by
    simp only [plain, Bool.and_eq_true] at t
    cases h with
    | lst h1 h2 => exact .lst (s.seq h1) (same_dpAll s t.2 h2)
  | .tuple xs, _, t, h => by
    simp only [plain, Bool.and_eq_true] at t
    cases h with
    | tup h1 h2 => exact .tup ((TupK.of s).sq h1) (same_dpAll s t.2 h2)
  | .bool _, _, _, h => by cases h; exact .bl _
  | .str _, _, _, h => by cases h; exact .str _
  | .dict _, _, t, _ => by simp [plain] at t
theorem same_dpAll {H H' : Hp} (s : Same H H') : ∀ {ds : List PyData} {vs : List V}, plainAll ds = true → DpAll K H vs ds → DpAll K H' vs ds
  | [], _, _, h => by cases h; exact .nil
  | d :: ds, _, t, h => by
    simp only [plainAll, Bool.and_eq_true] at t
    cases h with
    | cons h1 h2 => exact .cons (same_dp s t.1 h1) (same_dpAll s t.2 h2)
end
theorem eqv_nil : PyData.eqv (.list []) (.list []) = true := by simp [PyData.eqv, PyData.eqvAll]
set_option maxHeartbeats 4000000 in
theorem ok_same {f : Addr} {fd : FuncData} (F : Fun K "_law_same" "_law_same" sSame f fd) (b : Binds K fd ["_law_found", "_law_due"] []) (g : mg "_law_same" = some (.ref f))
    (m_tuple : mg "tuple" = none) (m_list : mg "list" = none) (m_isinstance : mg "isinstance" = none) (m_len : mg "len" = none) (m_range : mg "range" = none) (m_str : mg "str" = none) (m_int : mg "int" = none) (m_bool : mg "bool" = none) :
    ∀ n, FnOk P w K mg base CX0 n f fd ["_law_found", "_law_due"] (spS K n)
  | 0 => FnOk.none
  | n + 1 => by
    have G := ok_same F b g m_tuple m_list m_isinstance m_len m_range m_str m_int m_bool n
    refine F.ok scSame (fun vs H Q E h => ?_) (fun cdv A outer s H vs Q E hr h => ?_)
    · obtain ⟨x, y, d, rfl, _⟩ := h; rfl
    · obtain ⟨x, y, d, rfl, hx, hy, hpl, hdp, q⟩ := h
      have hu64 : (A.deeper (envOfC "_law_same" (defScope sSame) s.heap.objs.size f cdv)).units + 64 < cLine := by have := hr.un; omega
      refine ⟨_, pss_cons (ps_if (pt_val (pe_callB call_isiT (by rfl) m_isinstance (by decide +kernel) (pa_cons (pv 1) (pa_cons (pe_tup (pa_cons (pe_bltn (v := .ty "tuple") (by rfl) m_tuple (by decide +kernel) rfl) (pa_cons (pe_bltn (v := .ty "list") (by rfl) m_list (by decide +kernel) rfl) pa_nil))) pa_nil))))
          (pss_cons (ps_if (pt_cmpR op_ne (pe_callB call_isi (by rfl) m_isinstance (by decide +kernel) (pa_cons (pv 0) (pa_cons (pe_bltn (v := .ty "tuple") (by rfl) m_tuple (by decide +kernel) rfl) pa_nil))) (pe_callB call_isi (by rfl) m_isinstance (by decide +kernel) (pa_cons (pv 1) (pa_cons (pe_bltn (v := .ty "tuple") (by rfl) m_tuple (by decide +kernel) rfl) pa_nil))) (nomark _))
            (pss_one (ps_ret (pe_bl))) pss_nil)
          (pss_cons (ps_if (PW.pt (pw_or (pt_cmpR op_ne (pe_callB call_isi (by rfl) m_isinstance (by decide +kernel) (pa_cons (pv 0) (pa_cons (pe_bltn (v := .ty "list") (by rfl) m_list (by decide +kernel) rfl) pa_nil))) (pe_callB call_isi (by rfl) m_isinstance (by decide +kernel) (pa_cons (pv 1) (pa_cons (pe_bltn (v := .ty "list") (by rfl) m_list (by decide +kernel) rfl) pa_nil))) (nomark _)) (pw_or1 (pt_cmpR op_ne (pe_callB call_lenQ (by rfl) m_len PySem.boot_len (pa_cons (pv 0) pa_nil)) (pe_callB call_lenQ (by rfl) m_len PySem.boot_len (pa_cons (pv 1) pa_nil)) (nomark _)))))
            (pss_one (ps_ret (pe_bl))) pss_nil)
          (pss_one (ps_ret (pe_cmpR (op_eqD hu64) (pe_lc (own := [("_law_k", 2)]) (g := gName 2) (tt := tNot (tB (tCall (spS K n) [] E0 (tCons (tOp (rIx K) (tVar 0) (tVar 2)) (tCons (tOp (rIx K) (tVar 1) (tVar 2)) tNil))))) (te := tVar 2) rfl scSame.nd (pi_range1 (by rfl) m_range (pa_cons (pe_callB call_lenQ (by rfl) m_len PySem.boot_len (pa_cons (pv 1) pa_nil)) pa_nil)) (blkOk_by (N := ["_law_found", "_law_due", "_law_k"]) (sc := defScope sSame) (by decide +kernel)) (fun _ _ _ _ _ => pg_name (i := 2) scSame.nd rfl (.inl rfl)) (fun _ _ _ _ _ => pts_one (pt_not (pt_val (pe_call G hr (by rfl) g F.kp b .nil pass0 (pa_cons (pe_ix ix_seq (pv 0) (pv 2) (fun _ _ => rfl)) (pa_cons (pe_ix ix_seq (pv 1) (pv 2) (fun _ _ => rfl)) pa_nil)))))) (fun _ _ _ _ _ => pv 2)) (pe_lst (pa_nil)) (nomark _)))))) pss_nil)
        (pss_cons (ps_if (pt_cmp (pc_isN (pv 1)))
          (pss_one (ps_ret (pe_cmp (pc_isN (pv 0))))) pss_nil)
        (pss_cons (ps_if (pt_val (pe_callB call_isi (by rfl) m_isinstance (by decide +kernel) (pa_cons (pv 1) (pa_cons (pe_bltn (v := .ty "str") (by rfl) m_str (by decide +kernel) rfl) pa_nil))))
          (pss_one (ps_ret (pe_and (pe_callB call_isi (by rfl) m_isinstance (by decide +kernel) (pa_cons (pv 0) (pa_cons (pe_bltn (v := .ty "str") (by rfl) m_str (by decide +kernel) rfl) pa_nil))) (pe_one (pe_cmpR op_eq (pv 0) (pv 1) (nomark _)))))) pss_nil)
        (pss_one (ps_ret (pe_and (pe_callB call_isi (by rfl) m_isinstance (by decide +kernel) (pa_cons (pv 0) (pa_cons (pe_bltn (v := .ty "int") (by rfl) m_int (by decide +kernel) rfl) pa_nil))) (pe_and (pe_cmpR op_eq (pe_callB call_isi (by rfl) m_isinstance (by decide +kernel) (pa_cons (pv 0) (pa_cons (pe_bltn (v := .ty "bool") (by rfl) m_bool (by decide +kernel) rfl) pa_nil))) (pe_callB call_isi (by rfl) m_isinstance (by decide +kernel) (pa_cons (pv 1) (pa_cons (pe_bltn (v := .ty "bool") (by rfl) m_bool (by decide +kernel) rfl) pa_nil))) (nomark _)) (pe_one (pe_cmpR op_eq (pv 0) (pv 1) (nomark _))))))))), ?_⟩
      refine ⟨y, rfl, (show (2 : Nat) ≤ sizeLine by decide), fun tp ntp => ?_⟩
      have s1 : Same H (upd H tp (.tup [.ty "tuple", .ty "list"])) := sameNew ntp
      have cls : (∃ (T : String) (a b' : Addr) (xs ys : List V) (ds : List PyData), x = .ref a ∧ y = .ref b' ∧ SeqAs K H a xs T ∧ SeqAs K H b' ys T ∧ DpAll K H xs ds ∧ DpAll K H ys ds ∧ ds.length ≤ 1000 ∧ plainAll ds = true ∧ PyData.depthAll ds + 1 ≤ n) ∨
          (x = .non ∧ y = .non) ∨ (∃ i, x = .int i ∧ y = .int i) ∨ (∃ b, x = .bl b ∧ y = .bl b) ∨ ∃ z, x = .str z ∧ y = .str z := by
        cases d with
        | none => cases hx; cases hy; exact .inr (.inl ⟨rfl, rfl⟩)
        | int i => cases hx; cases hy; exact .inr (.inr (.inl ⟨i, rfl, rfl⟩))
        | list ds =>
          simp only [plain, Bool.and_eq_true, decide_eq_true_eq] at hpl
          simp only [PyData.depth] at hdp
          cases hx with
          | lst h1 h2 => cases hy with
            | lst h3 h4 => exact .inl ⟨"list", _, _, _, _, ds, rfl, rfl, .l h1, .l h3, h2, h4, hpl.1, hpl.2, hdp⟩
        | tuple ds =>
          simp only [plain, Bool.and_eq_true, decide_eq_true_eq] at hpl
          simp only [PyData.depth] at hdp
          cases hx with
          | tup h1 h2 => cases hy with
            | tup h3 h4 => exact .inl ⟨"tuple", _, _, _, _, ds, rfl, rfl, .t h1, .t h3, h2, h4, hpl.1, hpl.2, hdp⟩
        | bool bb => cases hx; cases hy; exact .inr (.inr (.inr (.inl ⟨bb, rfl, rfl⟩)))
        | str z => cases hx; cases hy; exact .inr (.inr (.inr (.inr ⟨z, rfl, rfl⟩)))
        | dict _ => simp [plain] at hpl
      rcases cls with ⟨T, a, b', xs, ys, ds, rfl, rfl, hX, hY, dx, dy, hds, hpa, hda⟩ | ⟨rfl, rfl⟩ | ⟨i, rfl, rfl⟩ | ⟨bb, rfl, rfl⟩ | ⟨z, rfl, rfl⟩
      · have hX1 := hX.same s1
        have hY1 := hY.same s1
        refine ⟨.ref b', tp, _, _, _, true, rfl, upd_same, .cons (.ty _) (.cons (.ty _) .nil), hY1.ty, hY1.kits, true, rfl, iteT ?_⟩
        refine ⟨.ref a, rfl, .ref a, .ty "tuple", _, _, _, rfl, .ty _, hX1.ty, hX1.kit "tuple" (.inr rfl), .ref b', rfl, .ref b', .ty "tuple", _, _, _, rfl, .ty _, hY1.ty, hY1.kit "tuple" (.inr rfl), rfl, _, rfl, iteNS rfl ?_⟩
        refine ⟨.ref a, rfl, .ref a, .ty "list", _, _, _, rfl, .ty _, hX1.ty, hX1.kit "list" (.inl rfl), .ref b', rfl, .ref b', .ty "list", _, _, _, rfl, .ty _, hY1.ty, hY1.kit "list" (.inl rfl), rfl, _, rfl, iteNS rfl ?_⟩
        have lx := DpAll.len dx
        have ly := DpAll.len dy
        refine ⟨.ref a, rfl, a, xs, rfl, hX1.or, .ref b', rfl, b', ys, rfl, hY1.or, rfl, _, rfl, iteNS (by rw [lx, ly]) ?_⟩
        refine ⟨.ref b', rfl, b', ys, rfl, hY1.or, _, rfl, by omega, by omega, fun D nD => lc_it (walk_range (lo := 0) (n := (ys.length : Int).toNat))
          (fun j H2 => Same H H2 ∧ H2 D = some (.lst [])) ⟨s1.trans (sameNew nD), upd_same⟩ (fun _ _ _ _ => trivial) ?_ ?_⟩
        · rintro j v H2 H3 hlt ⟨s2, e2⟩ ⟨rfl, rfl⟩
          have hj : j < ys.length := by omega
          have hj2 : j < xs.length := by omega
          have ex : xs[j]? = some xs[j] := List.getElem?_eq_getElem hj2
          have ey : ys[j]? = some ys[j] := List.getElem?_eq_getElem hj
          obtain ⟨d1, hd1, hx1⟩ := DpAll.at dx ex
          obtain ⟨d2, hd2, hy1⟩ := DpAll.at dy ey
          rw [hd1] at hd2
          cases hd2
          have hpd := plainAll_at hpa hd1
          have hdd := depthAll_at hd1
          obtain ⟨n', rfl⟩ : ∃ n', n = n' + 1 := ⟨n - 1, by omega⟩
          have e0 : (0 : Int) + (j : Nat) = (j : Nat) := by omega
          dsimp only
          rw [e0]
          refine ⟨rfl, .ref a, rfl, .int (j : Nat), rfl, (hX.same s2).ix ex ⟨.ref b', rfl, .int (j : Nat), rfl, (hY.same s2).ix ey ?_⟩⟩
          refine ⟨_, _, d1, rfl, same_dp s2 hpd hx1, same_dp s2 hpd hy1, hpd, by omega, fun H4 s4 => ⟨_, rfl, ?_⟩⟩
          exact ⟨s2.trans s4, s4 _ _ e2⟩
        · rintro H2 ⟨s2, e2⟩
          refine ⟨Nat.zero_le _, fun p np => ⟨.list [], .list [], .lst (SqL.of (upNew np e2)) .nil, .lst (SqL.of upd_same) .nil, by decide, by decide, ?_⟩⟩
          rw [eqv_nil]
          exact q _ (s2.trans (sameNew np))
      · have kn : PySem.W.kitAny K (.type "NoneType") [.type "tuple", .type "list"] = some false :=
          kitAny_cons (kit_ty (b := "tuple") (r := false) (by decide +kernel)) (fun _ => kitAny_cons (kit_ty (b := "list") (r := false) (by decide +kernel)) (fun _ => kitAny_nil) (fun z => by cases z)) (fun z => by cases z)
        refine ⟨.non, tp, _, _, _, false, rfl, upd_same, .cons (.ty _) (.cons (.ty _) .nil), .base .non, kn, false, rfl, iteF ?_⟩
        refine ⟨.non, rfl, _, rfl, iteT ?_⟩
        exact ⟨.non, rfl, q _ s1⟩
      · have kn : PySem.W.kitAny K (.type "int") [.type "tuple", .type "list"] = some false :=
          kitAny_cons (kit_ty (b := "tuple") (r := false) (by decide +kernel)) (fun _ => kitAny_cons (kit_ty (b := "list") (r := false) (by decide +kernel)) (fun _ => kitAny_nil) (fun z => by cases z)) (fun z => by cases z)
        refine ⟨.int i, tp, _, _, _, false, rfl, upd_same, .cons (.ty _) (.cons (.ty _) .nil), .base (.int i), kn, false, rfl, iteF ?_⟩
        refine ⟨.int i, rfl, _, rfl, iteF ?_⟩
        refine ⟨.int i, rfl, .int i, .ty "str", _, _, false, rfl, .ty _, .base (.int i), kit_ty (by decide +kernel), false, rfl, iteF ?_⟩
        refine ⟨.int i, rfl, .int i, .ty "int", _, _, true, rfl, .ty _, .base (.int i), kit_ty (by decide +kernel), true, rfl, iteT ?_⟩
        refine ⟨.int i, rfl, .int i, .ty "bool", _, _, false, rfl, .ty _, .base (.int i), kit_ty (by decide +kernel), .int i, rfl, .int i, .ty "bool", _, _, false, rfl, .ty _, .base (.int i), kit_ty (by decide +kernel), rfl, _, rfl, iteT ?_⟩
        refine ⟨.int i, rfl, .int i, rfl, rfl, ?_⟩
        have := q _ s1
        rw [decide_eq_true rfl]
        exact this
      · have kn : PySem.W.kitAny K (.type "bool") [.type "tuple", .type "list"] = some false :=
          kitAny_cons (kit_ty (b := "tuple") (r := false) (by decide +kernel)) (fun _ => kitAny_cons (kit_ty (b := "list") (r := false) (by decide +kernel)) (fun _ => kitAny_nil) (fun z => by cases z)) (fun z => by cases z)
        refine ⟨.bl bb, tp, _, _, _, false, rfl, upd_same, .cons (.ty _) (.cons (.ty _) .nil), .base (.bl bb), kn, false, rfl, iteF ?_⟩
        refine ⟨.bl bb, rfl, _, rfl, iteF ?_⟩
        refine ⟨.bl bb, rfl, .bl bb, .ty "str", _, _, false, rfl, .ty _, .base (.bl bb), kit_ty (by decide +kernel), false, rfl, iteF ?_⟩
        refine ⟨.bl bb, rfl, .bl bb, .ty "int", _, _, true, rfl, .ty _, .base (.bl bb), kit_ty (by decide +kernel), true, rfl, iteT ?_⟩
        refine ⟨.bl bb, rfl, .bl bb, .ty "bool", _, _, true, rfl, .ty _, .base (.bl bb), kit_ty (by decide +kernel), .bl bb, rfl, .bl bb, .ty "bool", _, _, true, rfl, .ty _, .base (.bl bb), kit_ty (by decide +kernel), rfl, _, rfl, iteT ?_⟩
        refine ⟨.bl bb, rfl, .bl bb, rfl, rfl, ?_⟩
        have := q _ s1
        rw [decide_eq_true rfl]
        exact this
      · have kn : PySem.W.kitAny K (.type "str") [.type "tuple", .type "list"] = some false :=
          kitAny_cons (kit_ty (b := "tuple") (r := false) (by decide +kernel)) (fun _ => kitAny_cons (kit_ty (b := "list") (r := false) (by decide +kernel)) (fun _ => kitAny_nil) (fun z => by cases z)) (fun z => by cases z)
        refine ⟨.str z, tp, _, _, _, false, rfl, upd_same, .cons (.ty _) (.cons (.ty _) .nil), .base (.str z), kn, false, rfl, iteF ?_⟩
        refine ⟨.str z, rfl, _, rfl, iteF ?_⟩
        refine ⟨.str z, rfl, .str z, .ty "str", _, _, true, rfl, .ty _, .base (.str z), kit_ty (by decide +kernel), true, rfl, iteT ?_⟩
        refine ⟨.str z, rfl, .str z, .ty "str", _, _, true, rfl, .ty _, .base (.str z), kit_ty (by decide +kernel), true, rfl, iteT ?_⟩
        refine ⟨.str z, rfl, .str z, rfl, rfl, ?_⟩
        have := q _ s1
        rw [decide_eq_true rfl]
        exact this
end
end Pv

namespace Pv
open PySem PySem.Spec PyProof.Rows L2
abbrev sWhole : Stmt := topS 1
abbrev sWithin : Stmt := topS 2
abbrev sTupOf : Stmt := topS 3
theorem scWhole : FnScope ["value"] ["value"] (defScope sWhole) := ⟨rfl, rfl, rfl, by decide +kernel, rfl, by decide +kernel, by decide +kernel⟩
theorem scWithin : FnScope ["value", "least", "most"] ["value", "least", "most"] (defScope sWithin) := ⟨rfl, rfl, rfl, by decide +kernel, rfl, by decide +kernel, by decide +kernel⟩
theorem scTupOf : FnScope ["value", "least", "most"] ["value", "least", "most"] (defScope sTupOf) := ⟨rfl, rfl, rfl, by decide +kernel, rfl, by decide +kernel, by decide +kernel⟩

/-! what a value is, by its data -/
section
variable {P : Program} {w : World} {K : PySem.W.Frag} {mg : Str → Option Value} {base : Heap}
def spWhole (K : PySem.W.Frag) : Sp := fun vs H Q _ => ∃ (st r : Addr) (v : V) (d : PyData), vs = [v] ∧ Dq K st r H v d ∧ Q (.bl (wholeD d)) H
theorem ok_whole {f : Addr} {fd : FuncData} {k : Nat} (F : Fun K "is_whole" "is_whole" sWhole f fd) (mi : mg "isinstance" = none) (mint : mg "int" = none) (mb : mg "bool" = none) :
    FnOk P w K mg base CX0 (k + 1) f fd ["value"] (spWhole K) := by
  refine F.ok scWhole (fun vs H Q E h => ?_) (fun cdv A outer s H vs Q E hr h => ?_)
  · obtain ⟨st, r, v, d, rfl, _⟩ := h; rfl
  · obtain ⟨st, r, v, d, rfl, hd, q⟩ := h
    refine ⟨_, pss_one (ps_ret (pe_and (pe_callB call_isi (by rfl) mi (by decide +kernel) (pa_cons (pv 0) (pa_cons (pe_bltn (v := .ty "int") (by rfl) mint (by decide +kernel) rfl) pa_nil)))
      (pe_one (pe_not (pe_callB call_isi (by rfl) mi (by decide +kernel) (pa_cons (pv 0) (pa_cons (pe_bltn (v := .ty "bool") (by rfl) mb (by decide +kernel) rfl) pa_nil))))))), ?_⟩
    refine ⟨v, rfl, v, .ty "int", _, _, _, rfl, .ty _, hd.ty, kit_int d, _, rfl, ite2 (fun h1 => ?_) (fun h1 => ?_)⟩
    · refine ⟨v, rfl, v, .ty "bool", _, _, _, rfl, .ty _, hd.ty, kit_bool d, _, rfl, ?_⟩
      unfold wholeD at q
      rw [h1, Bool.true_and] at q
      exact q
    · unfold wholeD at q
      rw [Bool.eq_false_iff.mpr h1, Bool.false_and] at q
      exact q
def spWithin (K : PySem.W.Frag) : Sp := fun vs H Q _ => ∃ (st r : Addr) (v : V) (d : PyData) (a b : Int), vs = [v, .int a, .int b] ∧ Dq K st r H v d ∧ Q (.bl (withinD a b d)) H
theorem ok_within {f fW : Addr} {fd fdW : FuncData} {k : Nat} (F : Fun K "is_within" "is_within" sWithin f fd) (FW : Fun K "is_whole" "is_whole" sWhole fW fdW) (bW : Binds K fdW ["value"] []) (gW : mg "is_whole" = some (.ref fW))
    (GW : FnOk P w K mg base CX0 1 fW fdW ["value"] (spWhole K)) : FnOk P w K mg base CX0 (1 + k + 1) f fd ["value", "least", "most"] (spWithin K) := by
  refine F.ok scWithin (fun vs H Q E h => ?_) (fun cdv A outer s H vs Q E hr h => ?_)
  · obtain ⟨st, r, v, d, a, b, rfl, _⟩ := h; rfl
  · obtain ⟨st, r, v, d, a, b, rfl, hd, q⟩ := h
    refine ⟨_, pss_one (ps_ret (pe_and (pe_call GW (hr.mono (by omega)) (by rfl) gW FW.kp bW .nil pass0 (pa_cons (pv 0) pa_nil)) (pe_one (pe_chain op_le op_le (pv 1) (pv 0) (pv 2))))), ?_⟩
    refine ⟨v, rfl, st, r, v, d, rfl, hd, _, rfl, ite2 (fun h1 => ?_) (fun h1 => ?_)⟩
    · cases d with
      | int i =>
        cases hd
        refine ⟨.int a, rfl, .int i, rfl, _, _, rfl, rfl, _, rfl, ite2 (fun h2 => ?_) (fun h2 => ?_)⟩
        · refine ⟨.int b, rfl, _, _, rfl, rfl, ?_⟩
          have h2' : a ≤ i := of_decide_eq_true h2
          simpa [withinD, h2'] using q
        · have h2' : ¬ a ≤ i := fun z => h2 (decide_eq_true z)
          simpa [withinD, h2'] using q
      | _ => simp [wholeD, isInt, isBool] at h1
    · cases d with
      | int i => simp [wholeD, isInt, isBool] at h1
      | _ => exact q
def spTupOf (K : PySem.W.Frag) : Sp := fun vs H Q _ => ∃ (st r : Addr) (v : V) (d : PyData) (a b : Int), vs = [v, .int a, .int b] ∧ Dq K st r H v d ∧ Q (.bl (tupOfD a b d)) H
theorem ok_tupOf {f : Addr} {fd : FuncData} {k : Nat} (F : Fun K "is_tuple_of" "is_tuple_of" sTupOf f fd) (mi : mg "isinstance" = none) (mt : mg "tuple" = none) (ml : mg "len" = none) :
    FnOk P w K mg base CX0 (k + 1) f fd ["value", "least", "most"] (spTupOf K) := by
  refine F.ok scTupOf (fun vs H Q E h => ?_) (fun cdv A outer s H vs Q E hr h => ?_)
  · obtain ⟨st, r, v, d, a, b, rfl, _⟩ := h; rfl
  · obtain ⟨st, r, v, d, a, b, rfl, hd, q⟩ := h
    refine ⟨_, pss_one (ps_ret (pe_and (pe_callB call_isi (by rfl) mi (by decide +kernel) (pa_cons (pv 0) (pa_cons (pe_bltn (v := .ty "tuple") (by rfl) mt (by decide +kernel) rfl) pa_nil)))
      (pe_one (pe_chain op_le op_le (pv 1) (pe_callB call_len_seq (by rfl) ml PySem.boot_len (pa_cons (pv 0) pa_nil)) (pv 2))))), ?_⟩
    refine ⟨v, rfl, v, .ty "tuple", _, _, _, rfl, .ty _, hd.ty, kit_tup d, _, rfl, ite2 (fun h1 => ?_) (fun h1 => ?_)⟩
    · cases d with
      | tuple ds =>
        cases hd with
        | @tup p xs _ hT ha =>
          refine ⟨.int a, rfl, .ref p, rfl, p, xs, rfl, .inr hT, _, _, rfl, rfl, _, rfl, ite2 (fun h2 => ?_) (fun h2 => ?_)⟩
          · refine ⟨.int b, rfl, _, _, rfl, rfl, ?_⟩
            have h2' : a ≤ (xs.length : Int) := of_decide_eq_true h2
            simpa [tupOfD, ← DqAll.len ha, h2'] using q
          · have h2' : ¬ a ≤ (xs.length : Int) := fun z => h2 (decide_eq_true z)
            simpa [tupOfD, ← DqAll.len ha, h2'] using q
      | _ => simp [isTup] at h1
    · cases d with
      | tuple ds => simp [isTup] at h1
      | _ => exact q
end
end Pv

namespace Pv
open PySem PySem.Spec PyProof.Rows L2
abbrev sOpt : Stmt := topS 11
abbrev sDem : Stmt := topS 12
abbrev sExc : Stmt := topS 13
abbrev sFre : Stmt := topS 14
abbrev sCla : Stmt := topS 15
abbrev sCro : Stmt := topS 16
abbrev sRes : Stmt := topS 17
theorem scOpt : FnScope ["instance", "group", "option", "posts"] ["instance", "group", "option"] (defScope sOpt) := ⟨rfl, rfl, rfl, by decide +kernel, rfl, by decide +kernel, by decide +kernel⟩
theorem scDem : FnScope ["instance", "totals", "posts", "count"] ["instance"] (defScope sDem) := ⟨rfl, rfl, rfl, by decide +kernel, rfl, by decide +kernel, by decide +kernel⟩
theorem scExc : FnScope ["instance", "capacity", "demand"] ["instance"] (defScope sExc) := ⟨rfl, rfl, rfl, by decide +kernel, rfl, by decide +kernel, by decide +kernel⟩
theorem scFre : FnScope ["instance", "capacity", "demand"] ["instance"] (defScope sFre) := ⟨rfl, rfl, rfl, by decide +kernel, rfl, by decide +kernel, by decide +kernel⟩
theorem scCla : FnScope ["instance", "post", "places"] ["instance"] (defScope sCla) := ⟨rfl, rfl, rfl, by decide +kernel, rfl, by decide +kernel, by decide +kernel⟩
theorem scCro : FnScope ["instance", "post", "excess"] ["instance"] (defScope sCro) := ⟨rfl, rfl, rfl, by decide +kernel, rfl, by decide +kernel, by decide +kernel⟩
theorem scRes : FnScope ["instance", "group", "posts", "claimed", "option"] ["instance", "group"] (defScope sRes) := ⟨rfl, rfl, rfl, by decide +kernel, rfl, by decide +kernel, by decide +kernel⟩
/-! the mathematics -/
section
variable {P : Program} {w : World} {K : PySem.W.Frag} {mg : Str → Option Value} {base : Heap}
theorem grp_at {H : Hp} {xs : List V} {gs : List Gp} (h : DpAll K H xs (gs.map dGrp)) {i : Nat} {g : Gp} (hg : gs[i]? = some g) : ∃ a p, xs[i]? = some (.ref a) ∧ SqT K H a [.ref p, .int g.2] ∧ SqT K H p (g.1.map V.int) := by
  have hl := DpAll.len h
  rw [List.length_map] at hl
  have hi : i < xs.length := by rw [hl]; exact (List.getElem?_eq_some_iff.mp hg).1
  obtain ⟨d, hd, hx⟩ := DpAll.at h (List.getElem?_eq_getElem hi)
  rw [List.getElem?_map, hg] at hd
  cases hd
  obtain ⟨a, p, e, h1, h2⟩ := grp_ref hx
  exact ⟨a, p, by rw [List.getElem?_eq_getElem hi, e], h1, h2⟩
def spOpt (K : PySem.W.Frag) : Sp := fun vs H Q _ => ∃ (i : Addr) (gi k : Nat) (cs : List Int) (gs : List Gp) (g : Gp), vs = [.ref i, .int gi, .int k] ∧ Dp K H (.ref i) (dInst cs gs) ∧ gs[gi]? = some g ∧ k ≤ g.1.length ∧ Q (optV g.1 k) H
theorem ok_opt {f : Addr} {fd : FuncData} {k : Nat} (F : Fun K "option_post" "option_post" sOpt f fd) (ml : mg "len" = none) : FnOk P w K mg base CX0 (k + 1) f fd ["instance", "group", "option"] (spOpt K) := by
  refine F.ok scOpt (fun vs H Q E h => ?_) (fun cdv A outer s H vs Q E hr h => ?_)
  · obtain ⟨i, gi, k, cs, gs, g, rfl, _⟩ := h; rfl
  · obtain ⟨i, gi, k, cs, gs, g, rfl, hI, hg, hk, q⟩ := h
    refine ⟨_, pss_cons (ps_set (i := 3) scOpt.nd rfl (.inl rfl) (pe_ix ix_tup (pe_ix ix_tup (pe_ix ix_tup (pv 0) pe_int (fun _ _ => rfl)) (pv 1) (fun _ _ => rfl)) pe_int (fun _ _ => rfl)))
      (pss_cons (ps_if (pt_cmpR op_eq (pv 2) (pe_callB call_len_seq (by rfl) ml PySem.boot_len (pa_cons (pv 3) pa_nil)) (nomark _)) (pss_one (ps_ret pe_non)) pss_nil)
      (pss_one (ps_ret (pe_ix ix_tup (pv 3) (pv 2) (fun _ _ => rfl))))), ?_⟩
    obtain ⟨_, ca, ga, xs, e, hi, hc, hgt, hgs⟩ := inst_open hI
    cases e
    obtain ⟨gA, pA, hx, hG, hP⟩ := grp_at hgs hg
    refine ⟨.ref i, rfl, i, _, 1, .ref ga, rfl, rfl, hi, atI_nat (j := 1) rfl, .int gi, rfl, ga, _, _, _, rfl, rfl, hgt, atI_nat hx, gA, _, 0, .ref pA, rfl, rfl, hG, atI_nat (j := 0) rfl, ?_⟩
    refine ⟨.int k, rfl, .ref pA, rfl, pA, _, rfl, .inr hP, rfl, _, rfl, ite2 (fun h1 => ?_) (fun h1 => ?_)⟩
    · have e : (k : Int) = ((g.1.map V.int).length : Nat) := V.int.inj (of_decide_eq_true h1)
      rw [List.length_map] at e
      have hk2 : k = g.1.length := by omega
      have : optV g.1 k = .non := by unfold optV; rw [List.getElem?_eq_none (by omega)]
      rw [this] at q
      exact q
    · have hk2 : k < g.1.length := by
        rcases Nat.lt_or_eq_of_le hk with h | h
        · exact h
        · exact absurd (decide_eq_true (by rw [h, List.length_map])) h1
      have : optV g.1 k = .int g.1[k] := by unfold optV; rw [List.getElem?_eq_getElem hk2]
      rw [this] at q
      exact ⟨.ref pA, rfl, .int k, rfl, pA, _, _, _, rfl, rfl, hP, atI_nat (by rw [List.getElem?_map, List.getElem?_eq_getElem hk2]; rfl), q⟩
def spVec (K : PySem.W.Frag) (r : List Int → List Gp → List Int) : Sp := fun vs H Q _ => ∃ (i : Addr) (cs : List Int) (gs : List Gp), vs = [.ref i] ∧ Dp K H (.ref i) (dInst cs gs) ∧ InsOk cs gs ∧
  ∀ H' p, Same H H' → Dp K H' (.ref p) (dI (r cs gs)) → Q (.ref p) H'
set_option maxHeartbeats 2000000 in
theorem ok_dem {f : Addr} {fd : FuncData} {k : Nat} (F : Fun K "demands" "demands" sDem f fd) (ml : mg "len" = none) (mt : mg "tuple" = none) : FnOk P w K mg base CX0 (k + 1) f fd ["instance"] (spVec K rDem) := by
  refine F.ok scDem (fun vs H Q E h => ?_) (fun cdv A outer s H vs Q E hr h => ?_)
  · obtain ⟨i, cs, gs, rfl, _⟩ := h; rfl
  · obtain ⟨i, cs, gs, rfl, hI, ok, q⟩ := h
    refine ⟨_, pss_cons (ps_set (i := 1) scDem.nd rfl (.inl rfl) (pe_op op_rep (pe_lst (pa_cons pe_int pa_nil)) (pe_callB call_len_seq (by rfl) ml PySem.boot_len (pa_cons (pe_ix ix_tup (pv 0) pe_int (fun _ _ => rfl)) pa_nil))))
      (pss_cons (ps_for PassesOwn.never rfl (pi_tup (pe_ix ix_tup (pv 0) pe_int (fun _ _ => rfl)))
          (pg_tup rfl (pgs_cons (pg_name (i := 2) scDem.nd rfl (.inl rfl)) (pgs_cons (pg_name (i := 3) scDem.nd rfl (.inl rfl)) pgs_nil)))
          (pss_one (ps_if (pt_cmpR op_gt (pe_callB call_len_seq (by rfl) ml PySem.boot_len (pa_cons (pv 2) pa_nil)) pe_int (nomark _))
            (pss_one (ps_augS (pv 1) (pe_ix ix_tup (pv 2) pe_int (fun _ _ => rfl)) get_list (pv 3) ip_add set_list)) pss_nil)))
      (pss_one (ps_ret (pe_callTy call_tuple_of (by rfl) mt (by decide +kernel) (pa_cons (pv 1) pa_nil))))), ?_⟩
    obtain ⟨_, ca, ga, xs, e, hi, hc, hg, hgs⟩ := inst_open hI
    cases e
    have h6 := ok.c6
    refine ⟨by decide, fun p0 n0 => ⟨.ref i, rfl, i, _, 0, .ref ca, rfl, rfl, (TupK.new n0).sq hi, atI_nat (j := 0) rfl, ca, _, rfl, .inr ((TupK.new n0).sq hc), p0, _, _, rfl, rfl, upd_same, by omega, ?_, ?_, fun L nL => ?_⟩⟩
    · rw [List.length_map]; omega
    · rw [List.length_map]; show 1 * _ ≤ sizeLine; have := small (n := cs.length) (by omega); simp; omega
    have fL : H L = none := freeOf nL
    have s1 : Same H (upd (upd H p0 (.lst [.int 0])) L (.lst (List.replicate ((List.map V.int cs).length : Int).toNat [V.int 0]).flatten)) := samePut (sameNew n0) fL
    refine ⟨.ref i, rfl, i, _, 1, .ref ga, rfl, rfl, (TupK.of s1).sq hi, atI_nat (j := 1) rfl, ga, rfl, ⟨_, (TupK.of s1).sq hg⟩, for_it (walk_tup (K := K) (a := ga) (xs := xs))
      (fun i' σ H2 => ∃ y2 y3, σ = [some (.ref i), some (.ref L), y2, y3] ∧ Same H H2 ∧ H2 L = some (.lst ((demOf cs.length (gs.take i')).map V.int)))
      ⟨none, none, rfl, s1, ?_⟩ ?_ ?_ ?_⟩
    · rw [upd_same, List.length_map, Int.toNat_natCast, zeros_V]; rfl
    · rintro i' σ H2 _ ⟨y2, y3, rfl, s2, e2⟩
      exact (TupK.of s2).sq hg
    · rintro i' v σ H2 H3 hlt ⟨y2, y3, rfl, s2, e2⟩ ⟨rfl, hx⟩
      obtain ⟨d, hd, hxd⟩ := DpAll.at hgs hx
      rw [List.getElem?_map] at hd
      obtain ⟨g, hgi, rfl⟩ := Option.map_eq_some_iff.mp hd
      obtain ⟨gA, pA, rfl, hG, hP⟩ := grp_ref hxd
      have tk := TupK.of s2
      have hsn := demOf_snoc (n := cs.length) hgi
      have hgp := (ok.gp g (List.mem_of_getElem? hgi)).2.1
      have hdl := demOf_len cs.length (gs.take i')
      generalize hcur : demOf cs.length (gs.take i') = cur at e2 hsn hdl
      refine ⟨gA, _, rfl, tk.sq hG, rfl, _, _, rfl, _, _, rfl, rfl, ?_⟩
      refine ⟨.ref pA, rfl, pA, _, rfl, .inr (tk.sq hP), _, _, rfl, rfl, _, rfl, ite2 (fun h1 => ?_) (fun h1 => ?_)⟩
      · obtain ⟨pp, ps, hps⟩ : ∃ pp ps, g.1 = pp :: ps := by
          cases hgg : g.1 with
          | nil => rw [hgg] at h1; exact absurd (of_decide_eq_true h1) (by simp)
          | cons a b => exact ⟨a, b, rfl⟩
        have hpr := hgp pp (by rw [hps]; simp)
        obtain ⟨pn, rfl⟩ : ∃ pn : Nat, pp = pn := ⟨pp.toNat, by omega⟩
        have hpl : pn < cur.length := by omega
        refine ⟨.ref L, rfl, .ref pA, rfl, pA, _, 0, .int pn, rfl, rfl, tk.sq hP, atI_nat (j := 0) (by rw [hps]; rfl), L, _, pn, .int cur[pn], rfl, rfl, SqL.of e2, by rw [List.getElem?_map, List.getElem?_eq_getElem hpl]; rfl, .int g.2, rfl, _, _, rfl, rfl, L, _, _, pn, rfl, rfl, e2, ixN_nat (by rw [List.length_map]; exact hpl), ?_⟩
        refine ⟨_, _, rfl, samePut s2 fL, ?_⟩
        rw [upd_same, hsn]
        unfold dAdd
        rw [hps]
        show _ = some (HO.lst ((addAt cur pn g.2).map V.int))
        unfold addAt
        rw [Int.toNat_natCast, List.getD_eq_getElem?_getD, List.getElem?_eq_getElem hpl, List.map_set]
        rfl
      · have hge : g.1 = [] := by
          cases hgg : g.1 with
          | nil => rfl
          | cons a b => rw [hgg] at h1; exact absurd (decide_eq_true (by simp)) h1
        refine ⟨_, _, rfl, s2, ?_⟩
        rw [e2, hsn]
        unfold dAdd
        rw [hge]
    · rintro σ H2 ⟨y2, y3, rfl, s2, e2⟩
      rw [DpAll.len hgs, List.length_map, List.take_length] at e2
      exact ⟨.ref L, rfl, L, _, rfl, .inl ⟨SqL.of e2, fun p np => q _ _ (s2.trans (sameNew np)) (dI_sq (SqT.of upd_same))⟩⟩
end
end Pv

namespace Pv
open PySem PySem.Spec PyProof.Rows L2
section
variable {P : Program} {w : World} {K : PySem.W.Frag} {mg : Str → Option Value} {base : Heap}
theorem ok_exc {f fM : Addr} {fd fdM : FuncData} {k : Nat} (F : Fun K "excesses" "excesses" sExc f fd)
    (FM : Fun K "demands" "demands" sDem fM fdM) (bM : Binds K fdM ["instance"] []) (gM : mg "demands" = some (.ref fM)) (GM : FnOk P w K mg base CX0 1 fM fdM ["instance"] (spVec K rDem))
    (mt : mg "tuple" = none) (mz : mg "zip" = none) (mm : mg "max" = none) : FnOk P w K mg base CX0 (1 + k + 1) f fd ["instance"] (spVec K rExc) := by
  refine F.ok scExc (fun vs H Q E h => ?_) (fun cdv A outer s H vs Q E hr h => ?_)
  · obtain ⟨i, cs, gs, rfl, _⟩ := h; rfl
  · obtain ⟨i, cs, gs, rfl, hI, ok, q⟩ := h
    refine ⟨_, pss_one (ps_ret (pe_callTy call_tuple_of (by rfl) mt (by decide +kernel) (pa_cons
        (pe_lc (own := [("capacity", 1), ("demand", 2)]) (g := gTup K 2 (gCons (gName 1) (gCons (gName 2) gNil))) (tt := tYes) rfl scExc.nd
          (RZ.pi_zipA (by rfl) mz (pa_cons (pe_ix ix_tup (pv 0) pe_int (fun _ _ => rfl)) (pa_cons (pe_call GM (hr.mono (by omega)) (by rfl) gM FM.kp bM .nil pass0 (pa_cons (pv 0) pa_nil)) pa_nil))) (blkOk_by (N := ["instance", "capacity", "demand"]) (sc := defScope sExc) (by decide +kernel))
          (fun _ _ _ _ _ => pg_tup rfl (pgs_cons (pg_name (i := 1) scExc.nd rfl (.inl rfl)) (pgs_cons (pg_name (i := 2) scExc.nd rfl (.inl rfl)) pgs_nil))) (fun _ _ _ _ _ => pts_nil)
          (fun _ _ _ _ _ => pe_callB (call_max2 rfl) (by rfl) mm (by decide +kernel) (pa_cons pe_int (pa_cons (pe_op op_sub (pv 2) (pv 1)) pa_nil)))) pa_nil))), ?_⟩
    obtain ⟨_, ca, ga, xs, e, hi, hc, hg, hgs⟩ := inst_open hI
    cases e
    have h6 := ok.c6
    refine ⟨.ref i, rfl, i, _, 0, .ref ca, rfl, rfl, hi, atI_nat (j := 0) rfl, .ref i, rfl, i, cs, gs, rfl, hI, ok, fun H1 dm s1 hdm => ?_⟩
    have hD := sq_dI hdm
    have hc1 := (TupK.of s1).sq hc
    refine ⟨ca, dm, _, _, rfl, .inr ⟨hc1, hD, fun D nD => lc_it (walk_zipT (K := K) (a := ca) (b := dm) (xs := cs.map V.int) (ys := (rDem cs gs).map V.int) rfl)
      (fun j H2 => Same H1 H2 ∧ H2 D = some (.lst ((((cs.take j).zip ((rDem cs gs).take j)).map (fun q => mx (q.2 - q.1))).map V.int))) ⟨sameNew nD, upd_same⟩ (fun j H2 _ h2 => ⟨(TupK.of h2.1).sq hc1, (TupK.of h2.1).sq hD⟩) ?_ ?_⟩⟩
    · rintro j v H2 H3 hlt ⟨s2, e2⟩ ⟨T, x, y, rfl, nT, rfl, hx, hy⟩
      have hx' : (cs.map V.int)[j]? = some x := hx
      have hy' : ((rDem cs gs).map V.int)[j]? = some y := hy
      rw [List.getElem?_map] at hx' hy'
      obtain ⟨c, hcj, rfl⟩ := Option.map_eq_some_iff.mp hx'
      obtain ⟨d, hdj, rfl⟩ := Option.map_eq_some_iff.mp hy'
      have hjl : j < cs.length := (List.getElem?_eq_some_iff.mp hcj).1
      refine ⟨T, _, rfl, SqT.of upd_same, rfl, _, _, rfl, _, _, rfl, rfl, rfl, .int d, rfl, .int c, rfl, _, _, rfl, rfl, _, _, rfl, _, upNew nT e2, ?_, samePut (s2.trans (sameNew nT)) nD, ?_⟩
      · rw [List.length_map, List.length_map, List.length_zip, List.length_take, List.length_take]; exact small (by omega)
      · rw [upd_same, zip_snoc hcj hdj, List.map_append, List.map_append]; rfl
    · rintro H2 ⟨s2, e2⟩
      rw [List.length_map, List.length_map, zip_take, List.take_of_length_le (by rw [List.length_zip]; exact Nat.le_refl _)] at e2
      exact ⟨D, _, rfl, .inl ⟨SqL.of e2, fun p np => q _ _ ((s1.trans s2).trans (sameNew np)) (dI_sq (SqT.of upd_same))⟩⟩
theorem ok_fre {f fM : Addr} {fd fdM : FuncData} {k : Nat} (F : Fun K "free_places" "free_places" sFre f fd)
    (FM : Fun K "demands" "demands" sDem fM fdM) (bM : Binds K fdM ["instance"] []) (gM : mg "demands" = some (.ref fM)) (GM : FnOk P w K mg base CX0 1 fM fdM ["instance"] (spVec K rDem))
    (mt : mg "tuple" = none) (mz : mg "zip" = none) (mm : mg "max" = none) : FnOk P w K mg base CX0 (1 + k + 1) f fd ["instance"] (spVec K rFre) := by
  refine F.ok scFre (fun vs H Q E h => ?_) (fun cdv A outer s H vs Q E hr h => ?_)
  · obtain ⟨i, cs, gs, rfl, _⟩ := h; rfl
  · obtain ⟨i, cs, gs, rfl, hI, ok, q⟩ := h
    refine ⟨_, pss_one (ps_ret (pe_callTy call_tuple_of (by rfl) mt (by decide +kernel) (pa_cons
        (pe_lc (own := [("capacity", 1), ("demand", 2)]) (g := gTup K 2 (gCons (gName 1) (gCons (gName 2) gNil))) (tt := tYes) rfl scFre.nd
          (RZ.pi_zipA (by rfl) mz (pa_cons (pe_ix ix_tup (pv 0) pe_int (fun _ _ => rfl)) (pa_cons (pe_call GM (hr.mono (by omega)) (by rfl) gM FM.kp bM .nil pass0 (pa_cons (pv 0) pa_nil)) pa_nil))) (blkOk_by (N := ["instance", "capacity", "demand"]) (sc := defScope sFre) (by decide +kernel))
          (fun _ _ _ _ _ => pg_tup rfl (pgs_cons (pg_name (i := 1) scFre.nd rfl (.inl rfl)) (pgs_cons (pg_name (i := 2) scFre.nd rfl (.inl rfl)) pgs_nil))) (fun _ _ _ _ _ => pts_nil)
          (fun _ _ _ _ _ => pe_callB (call_max2 rfl) (by rfl) mm (by decide +kernel) (pa_cons pe_int (pa_cons (pe_op op_sub (pv 1) (pv 2)) pa_nil)))) pa_nil))), ?_⟩
    obtain ⟨_, ca, ga, xs, e, hi, hc, hg, hgs⟩ := inst_open hI
    cases e
    have h6 := ok.c6
    refine ⟨.ref i, rfl, i, _, 0, .ref ca, rfl, rfl, hi, atI_nat (j := 0) rfl, .ref i, rfl, i, cs, gs, rfl, hI, ok, fun H1 dm s1 hdm => ?_⟩
    have hD := sq_dI hdm
    have hc1 := (TupK.of s1).sq hc
    refine ⟨ca, dm, _, _, rfl, .inr ⟨hc1, hD, fun D nD => lc_it (walk_zipT (K := K) (a := ca) (b := dm) (xs := cs.map V.int) (ys := (rDem cs gs).map V.int) rfl)
      (fun j H2 => Same H1 H2 ∧ H2 D = some (.lst ((((cs.take j).zip ((rDem cs gs).take j)).map (fun q => mx (q.1 - q.2))).map V.int))) ⟨sameNew nD, upd_same⟩ (fun j H2 _ h2 => ⟨(TupK.of h2.1).sq hc1, (TupK.of h2.1).sq hD⟩) ?_ ?_⟩⟩
    · rintro j v H2 H3 hlt ⟨s2, e2⟩ ⟨T, x, y, rfl, nT, rfl, hx, hy⟩
      have hx' : (cs.map V.int)[j]? = some x := hx
      have hy' : ((rDem cs gs).map V.int)[j]? = some y := hy
      rw [List.getElem?_map] at hx' hy'
      obtain ⟨c, hcj, rfl⟩ := Option.map_eq_some_iff.mp hx'
      obtain ⟨d, hdj, rfl⟩ := Option.map_eq_some_iff.mp hy'
      have hjl : j < cs.length := (List.getElem?_eq_some_iff.mp hcj).1
      refine ⟨T, _, rfl, SqT.of upd_same, rfl, _, _, rfl, _, _, rfl, rfl, rfl, .int c, rfl, .int d, rfl, _, _, rfl, rfl, _, _, rfl, _, upNew nT e2, ?_, samePut (s2.trans (sameNew nT)) nD, ?_⟩
      · rw [List.length_map, List.length_map, List.length_zip, List.length_take, List.length_take]; exact small (by omega)
      · rw [upd_same, zip_snoc hcj hdj, List.map_append, List.map_append]; rfl
    · rintro H2 ⟨s2, e2⟩
      rw [List.length_map, List.length_map, zip_take, List.take_of_length_le (by rw [List.length_zip]; exact Nat.le_refl _)] at e2
      exact ⟨D, _, rfl, .inl ⟨SqL.of e2, fun p np => q _ _ ((s1.trans s2).trans (sameNew np)) (dI_sq (SqT.of upd_same))⟩⟩
theorem ok_cla {f fM : Addr} {fd fdM : FuncData} {k : Nat} (F : Fun K "claimed_posts" "claimed_posts" sCla f fd)
    (FM : Fun K "free_places" "free_places" sFre fM fdM) (bM : Binds K fdM ["instance"] []) (gM : mg "free_places" = some (.ref fM)) (GM : FnOk P w K mg base CX0 2 fM fdM ["instance"] (spVec K rFre))
    (mt : mg "tuple" = none) (me : mg "enumerate" = none) : FnOk P w K mg base CX0 (2 + k + 1) f fd ["instance"] (spVec K rCla) := by
  refine F.ok scCla (fun vs H Q E h => ?_) (fun cdv A outer s H vs Q E hr h => ?_)
  · obtain ⟨i, cs, gs, rfl, _⟩ := h; rfl
  · obtain ⟨i, cs, gs, rfl, hI, ok, q⟩ := h
    refine ⟨_, pss_one (ps_ret (pe_callTy call_tuple_of (by rfl) mt (by decide +kernel) (pa_cons
        (pe_lc (own := [("post", 1), ("places", 2)]) (g := gTup K 2 (gCons (gName 1) (gCons (gName 2) gNil))) (tt := tTest (tOp rEq (tVar 2) (tC (.int 0)))) (te := tVar 1) rfl scCla.nd
          (pi_enumT (by rfl) me (pa_cons (pe_call GM (hr.mono (by omega)) (by rfl) gM FM.kp bM .nil pass0 (pa_cons (pv 0) pa_nil)) pa_nil)) (blkOk_by (N := ["instance", "post", "places"]) (sc := defScope sCla) (by decide +kernel))
          (fun _ _ _ _ _ => pg_tup rfl (pgs_cons (pg_name (i := 1) scCla.nd rfl (.inl rfl)) (pgs_cons (pg_name (i := 2) scCla.nd rfl (.inl rfl)) pgs_nil)))
          (fun _ _ _ _ _ => pts_one (pt_cmpR op_eq (pv 2) pe_int (nomark _)))
          (fun _ _ _ _ _ => pv 1)) pa_nil))), ?_⟩
    have h6 := ok.c6
    refine ⟨.ref i, rfl, i, cs, gs, rfl, hI, ok, fun H1 dm s1 hdm => ?_⟩
    have hD := sq_dI hdm
    refine ⟨dm, _, rfl, hD, fun D nD => lc_it (walk_enumT (K := K) (a := dm) (xs := (rFre cs gs).map V.int))
      (fun j H2 => Same H1 H2 ∧ H2 D = some (.lst ((sel (fun x => decide (x = 0)) (rFre cs gs) j).map V.int))) ⟨sameNew nD, upd_same⟩ (fun j H2 _ h2 => (TupK.of h2.1).sq hD) ?_ ?_⟩
    · rintro j v H2 H3 hlt ⟨s2, e2⟩ ⟨T, x, y, rfl, nT, rfl, hx, hy⟩
      have hx' : some (V.int (j : Nat)) = some x := hx
      cases hx'
      have hy' : ((rFre cs gs).map V.int)[j]? = some y := hy
      rw [List.getElem?_map] at hy'
      obtain ⟨d, hdj, rfl⟩ := Option.map_eq_some_iff.mp hy'
      have hjl : j < cs.length := by have := (List.getElem?_eq_some_iff.mp hdj).1; rw [rFre_len] at this; exact this
      have hs := sel_succ (fun x => decide (x = 0)) (rFre cs gs) hdj
      have e3 := upNew (o := .tup [.int (j : Nat), .int d]) nT e2
      have s3 := s2.trans (sameNew (o := .tup [.int (j : Nat), .int d]) nT)
      refine ⟨T, _, rfl, SqT.of upd_same, rfl, _, _, rfl, _, _, rfl, rfl, rfl, .int d, rfl, rfl, _, rfl, ite2 (fun h1 => ?_) (fun h1 => ?_)⟩
      · have h0 : d = 0 := V.int.inj (of_decide_eq_true h1)
        refine ⟨.int (j : Nat), rfl, _, e3, ?_, samePut s3 nD, ?_⟩
        · rw [List.length_map]; exact small (Nat.le_trans (sel_len ..) (by omega))
        · rw [upd_same, hs, h0, List.map_append]; rfl
      · have h0 : d ≠ 0 := fun z => h1 (decide_eq_true (by rw [z]))
        refine ⟨s3, ?_⟩
        rw [e3, hs, if_neg (by simpa using h0), List.append_nil]
    · rintro H2 ⟨s2, e2⟩
      rw [List.length_map, rFre_len] at e2
      exact ⟨D, _, rfl, .inl ⟨SqL.of e2, fun p np => q _ _ ((s1.trans s2).trans (sameNew np)) (dI_sq (SqT.of upd_same))⟩⟩
theorem ok_cro {f fM : Addr} {fd fdM : FuncData} {k : Nat} (F : Fun K "crowded_posts" "crowded_posts" sCro f fd)
    (FM : Fun K "excesses" "excesses" sExc fM fdM) (bM : Binds K fdM ["instance"] []) (gM : mg "excesses" = some (.ref fM)) (GM : FnOk P w K mg base CX0 2 fM fdM ["instance"] (spVec K rExc))
    (mt : mg "tuple" = none) (me : mg "enumerate" = none) : FnOk P w K mg base CX0 (2 + k + 1) f fd ["instance"] (spVec K rCro) := by
  refine F.ok scCro (fun vs H Q E h => ?_) (fun cdv A outer s H vs Q E hr h => ?_)
  · obtain ⟨i, cs, gs, rfl, _⟩ := h; rfl
  · obtain ⟨i, cs, gs, rfl, hI, ok, q⟩ := h
    refine ⟨_, pss_one (ps_ret (pe_callTy call_tuple_of (by rfl) mt (by decide +kernel) (pa_cons
        (pe_lc (own := [("post", 1), ("excess", 2)]) (g := gTup K 2 (gCons (gName 1) (gCons (gName 2) gNil))) (tt := tTest (tOp (rI0 fun i j => .bl (decide (j < i))) (tVar 2) (tC (.int 0)))) (te := tVar 1) rfl scCro.nd
          (pi_enumT (by rfl) me (pa_cons (pe_call GM (hr.mono (by omega)) (by rfl) gM FM.kp bM .nil pass0 (pa_cons (pv 0) pa_nil)) pa_nil)) (blkOk_by (N := ["instance", "post", "excess"]) (sc := defScope sCro) (by decide +kernel))
          (fun _ _ _ _ _ => pg_tup rfl (pgs_cons (pg_name (i := 1) scCro.nd rfl (.inl rfl)) (pgs_cons (pg_name (i := 2) scCro.nd rfl (.inl rfl)) pgs_nil)))
          (fun _ _ _ _ _ => pts_one (pt_cmpR op_gt (pv 2) pe_int (nomark _)))
          (fun _ _ _ _ _ => pv 1)) pa_nil))), ?_⟩
    have h6 := ok.c6
    refine ⟨.ref i, rfl, i, cs, gs, rfl, hI, ok, fun H1 dm s1 hdm => ?_⟩
    have hD := sq_dI hdm
    refine ⟨dm, _, rfl, hD, fun D nD => lc_it (walk_enumT (K := K) (a := dm) (xs := (rExc cs gs).map V.int))
      (fun j H2 => Same H1 H2 ∧ H2 D = some (.lst ((sel (fun x => decide (0 < x)) (rExc cs gs) j).map V.int))) ⟨sameNew nD, upd_same⟩ (fun j H2 _ h2 => (TupK.of h2.1).sq hD) ?_ ?_⟩
    · rintro j v H2 H3 hlt ⟨s2, e2⟩ ⟨T, x, y, rfl, nT, rfl, hx, hy⟩
      have hx' : some (V.int (j : Nat)) = some x := hx
      cases hx'
      have hy' : ((rExc cs gs).map V.int)[j]? = some y := hy
      rw [List.getElem?_map] at hy'
      obtain ⟨d, hdj, rfl⟩ := Option.map_eq_some_iff.mp hy'
      have hjl : j < cs.length := by have := (List.getElem?_eq_some_iff.mp hdj).1; rw [rExc_len] at this; exact this
      have hs := sel_succ (fun x => decide (0 < x)) (rExc cs gs) hdj
      have e3 := upNew (o := .tup [.int (j : Nat), .int d]) nT e2
      have s3 := s2.trans (sameNew (o := .tup [.int (j : Nat), .int d]) nT)
      refine ⟨T, _, rfl, SqT.of upd_same, rfl, _, _, rfl, _, _, rfl, rfl, rfl, .int d, rfl, _, _, rfl, rfl, _, rfl, ite2 (fun h1 => ?_) (fun h1 => ?_)⟩
      · have h0 : 0 < d := of_decide_eq_true h1
        refine ⟨.int (j : Nat), rfl, _, e3, ?_, samePut s3 nD, ?_⟩
        · rw [List.length_map]; exact small (Nat.le_trans (sel_len ..) (by omega))
        · rw [upd_same, hs, if_pos (by simpa using h0), List.map_append]; rfl
      · have h0 : ¬ 0 < d := fun z => h1 (decide_eq_true z)
        refine ⟨s3, ?_⟩
        rw [e3, hs, if_neg (by simpa using h0), List.append_nil]
    · rintro H2 ⟨s2, e2⟩
      rw [List.length_map, rExc_len] at e2
      exact ⟨D, _, rfl, .inl ⟨SqL.of e2, fun p np => q _ _ ((s1.trans s2).trans (sameNew np)) (dI_sq (SqT.of upd_same))⟩⟩
def spRes (K : PySem.W.Frag) : Sp := fun vs H Q _ => ∃ (i : Addr) (gi : Nat) (cs : List Int) (gs : List Gp) (g : Gp), vs = [.ref i, .int gi] ∧ Dp K H (.ref i) (dInst cs gs) ∧ InsOk cs gs ∧ gs[gi]? = some g ∧
  ∀ H', Same H H' → Q (.int (resOf g.1 (rCla cs gs))) H'
theorem ok_res {f fM : Addr} {fd fdM : FuncData} {k : Nat} (F : Fun K "reserve_option" "reserve_option" sRes f fd)
    (FM : Fun K "claimed_posts" "claimed_posts" sCla fM fdM) (bM : Binds K fdM ["instance"] []) (gM : mg "claimed_posts" = some (.ref fM)) (GM : FnOk P w K mg base CX0 3 fM fdM ["instance"] (spVec K rCla))
    (mr : mg "range" = none) (ml : mg "len" = none) : FnOk P w K mg base CX0 (3 + k + 1) f fd ["instance", "group"] (spRes K) := by
  refine F.ok scRes (fun vs H Q E h => ?_) (fun cdv A outer s H vs Q E hr h => ?_)
  · obtain ⟨i, gi, cs, gs, g, rfl, _⟩ := h; rfl
  · obtain ⟨i, gi, cs, gs, g, rfl, hI, ok, hg, q⟩ := h
    refine ⟨_, pss_cons (ps_set (i := 2) scRes.nd rfl (.inl rfl) (pe_ix ix_tup (pe_ix ix_tup (pe_ix ix_tup (pv 0) pe_int (fun _ _ => rfl)) (pv 1) (fun _ _ => rfl)) pe_int (fun _ _ => rfl)))
      (pss_cons (ps_set (i := 3) scRes.nd rfl (.inl rfl) (pe_call GM (hr.mono (by omega)) (by rfl) gM FM.kp bM .nil pass0 (pa_cons (pv 0) pa_nil)))
      (pss_cons (ps_for PassesOwn.never rfl (pi_range2 (by rfl) mr (pa_cons pe_int (pa_cons (pe_callB call_len_seq (by rfl) ml PySem.boot_len (pa_cons (pv 2) pa_nil)) pa_nil))) (pg_name (i := 4) scRes.nd rfl (.inl rfl))
        (pss_one (ps_if (pt_cmpR op_notIn_seq (pe_ix ix_tup (pv 2) (pv 4) (fun _ _ => rfl)) (pv 3) rfl) (pss_one (ps_ret (pv 4))) pss_nil)))
      (pss_one (ps_ret (pe_callB call_len_seq (by rfl) ml PySem.boot_len (pa_cons (pv 2) pa_nil)))))), ?_⟩
    obtain ⟨_, ca, ga, xs, e, hi, hc, hgt, hgs⟩ := inst_open hI
    cases e
    obtain ⟨gA, pA, hx, hG, hP⟩ := grp_at hgs hg
    have hgl := (ok.gp g (List.mem_of_getElem? hg)).1
    refine ⟨.ref i, rfl, i, _, 1, .ref ga, rfl, rfl, hi, atI_nat (j := 1) rfl, .int gi, rfl, ga, _, _, _, rfl, rfl, hgt, atI_nat hx, gA, _, 0, .ref pA, rfl, rfl, hG, atI_nat (j := 0) rfl, ?_⟩
    refine ⟨.ref i, rfl, i, cs, gs, rfl, hI, ok, fun H1 cl s1 hcl => ?_⟩
    have hC := sq_dI hcl
    have hP1 := (TupK.of s1).sq hP
    refine ⟨.ref pA, rfl, pA, _, rfl, .inr hP1, 1, _, rfl, ⟨by omega, by omega, by omega, by rw [List.length_map]; omega⟩, for_it (walk_range (lo := 1) (n := (((List.map V.int g.1).length : Int) - 1).toNat))
      (fun j σ H2 => ∃ y4, σ = [some (.ref i), some (.int gi), some (.ref pA), some (.ref cl), y4] ∧ H2 = H1 ∧ ∀ k, 1 ≤ k → k < 1 + j → isFree g.1 (rCla cs gs) k = false)
      ⟨none, rfl, rfl, fun k h1 h2 => by omega⟩ (fun _ _ _ _ _ => trivial) ?_ ?_⟩
    · rintro j v σ H2 H3 hlt ⟨y4, rfl, rfl, hno⟩ ⟨rfl, rfl⟩
      rw [List.length_map] at hlt
      have hj1 : 1 + j < g.1.length := by omega
      have e1 : (1 : Int) + (j : Nat) = ((1 + j : Nat) : Int) := by omega
      have hpv : (g.1.map V.int)[1 + j]? = some (.int g.1[1 + j]) := by rw [List.getElem?_map, List.getElem?_eq_getElem hj1]; rfl
      dsimp only
      rw [e1]
      refine ⟨.ref pA, rfl, .int ((1 + j : Nat) : Int), rfl, pA, _, _, _, rfl, rfl, hP1, atI_nat hpv, .ref cl, rfl, cl, _, rfl, .inr hC, rfl, flat_ints _, _, rfl, ?_⟩
      have hfr : isFree g.1 (rCla cs gs) (1 + j) = !(inV (.int g.1[1 + j]) ((rCla cs gs).map V.int)) := by
        unfold isFree
        rw [inV_ints, List.getD_eq_getElem?_getD, List.getElem?_eq_getElem hj1]; rfl
      refine ite2 (fun h1 => ?_) (fun h1 => ?_)
      · have hf : isFree g.1 (rCla cs gs) (1 + j) = true := by rw [hfr]; exact h1
        have hr : resOf g.1 (rCla cs gs) = 1 + j := by
          unfold resOf
          have : (List.range' 1 (g.1.length - 1)).find? (isFree g.1 (rCla cs gs)) = some (1 + j) := by
            rw [List.find?_range'_eq_some]
            refine ⟨hf, by rw [List.mem_range'_1]; omega, fun k h1 h2 => by rw [hno k h1 h2]; rfl⟩
          rw [this]; rfl
        have := q _ s1
        rw [hr] at this
        exact ⟨_, rfl, this⟩
      · have hf : isFree g.1 (rCla cs gs) (1 + j) = false := by rw [hfr]; exact Bool.eq_false_iff.mpr h1
        refine ⟨_, rfl, rfl, fun k h1 h2 => ?_⟩
        rcases Nat.lt_or_ge k (1 + j) with h | h
        · exact hno k h1 h
        · have : k = 1 + j := by omega
          rw [this]; exact hf
    · rintro σ H2 ⟨y4, rfl, rfl, hno⟩
      rw [List.length_map] at hno
      have hr : resOf g.1 (rCla cs gs) = g.1.length := by
        unfold resOf
        have : (List.range' 1 (g.1.length - 1)).find? (isFree g.1 (rCla cs gs)) = none := by
          rw [List.find?_range'_eq_none]
          intro k h1 h2
          rw [hno k h1 (by omega)]; rfl
        rw [this]; rfl
      have := q _ s1
      rw [hr] at this
      refine ⟨.ref pA, rfl, pA, _, rfl, .inr hP1, ?_⟩
      rw [List.length_map]
      exact this
end
end Pv

namespace Pv
open PySem PySem.Spec PyProof.Rows L2
abbrev sGr : Stmt := topS 19
theorem scGr : FnScope ["instance", "crowded", "routes", "group", "first"] ["instance"] (defScope sGr) := ⟨rfl, rfl, rfl, by decide +kernel, rfl, by decide +kernel, by decide +kernel⟩
/-! routes -/
section
variable {P : Program} {w : World} {K : PySem.W.Frag} {mg : Str → Option Value} {base : Heap}
def spGr (K : PySem.W.Frag) : Sp := fun vs H Q _ => ∃ (i : Addr) (cs : List Int) (gs : List Gp), vs = [.ref i] ∧ Dp K H (.ref i) (dInst cs gs) ∧ InsOk cs gs ∧
  ∀ H' p vs, Same H H' → H' p = some (.lst vs) → RtAll K H' vs (gs.map (routeOf cs gs)) → H p = none → Q (.ref p) H'
set_option maxHeartbeats 2000000 in
theorem ok_Gr {f fCr fOp fRe : Addr} {fd fdCr fdOp fdRe : FuncData} (F : Fun K "group_routes" "group_routes" sGr f fd)
    (FCr : Fun K "crowded_posts" "crowded_posts" sCro fCr fdCr) (bCr : Binds K fdCr ["instance"] []) (gCr : mg "crowded_posts" = some (.ref fCr)) (GCr : FnOk P w K mg base CX0 3 fCr fdCr ["instance"] (spVec K rCro))
    (FOp : Fun K "option_post" "option_post" sOpt fOp fdOp) (bOp : Binds K fdOp ["instance", "group", "option"] []) (gOp : mg "option_post" = some (.ref fOp)) (GOp : FnOk P w K mg base CX0 1 fOp fdOp ["instance", "group", "option"] (spOpt K))
    (FRe : Fun K "reserve_option" "reserve_option" sRes fRe fdRe) (bRe : Binds K fdRe ["instance", "group"] []) (gRe : mg "reserve_option" = some (.ref fRe)) (GRe : FnOk P w K mg base CX0 4 fRe fdRe ["instance", "group"] (spRes K))
    (m_len : mg "len" = none) (m_range : mg "range" = none) :
    FnOk P w K mg base CX0 5 f fd ["instance"] (spGr K) := by
  refine F.ok scGr (fun vs H Q E h => ?_) (fun cdv A outer s H vs Q E hr h => ?_)
  · obtain ⟨i, cs, gs, rfl, _⟩ := h; rfl
  · obtain ⟨i, cs, gs, rfl, hI, ok, q⟩ := h
    refine ⟨_, pss_cons (ps_set (i := 1) scGr.nd rfl (.inl rfl) (pe_call GCr (hr.mono (by omega)) (by rfl) gCr FCr.kp bCr .nil pass0 (pa_cons (pv 0) pa_nil)))
      (pss_cons (ps_set (i := 2) scGr.nd rfl (.inl rfl) (pe_lst (pa_nil)))
      (pss_cons (ps_for PassesOwn.never rfl (pi_range1 (by rfl) m_range (pa_cons (pe_callB call_lenQ (by rfl) m_len PySem.boot_len (pa_cons (pe_ix ix_tup (pv 0) (pe_int) (fun _ _ => rfl)) pa_nil)) pa_nil)) (pg_name (i := 3) scGr.nd rfl (.inl rfl))
        (pss_cons (ps_set (i := 4) scGr.nd rfl (.inl rfl) (pe_call GOp (hr.mono (by omega)) (by rfl) gOp FOp.kp bOp .nil pass0 (pa_cons (pv 0) (pa_cons (pv 3) (pa_cons (pe_int) pa_nil)))))
        (pss_one (ps_if (pt_cmpR op_in_seq (pv 4) (pv 1) (by rfl))
          (pss_one (ps_expr (pe_bm PySem.F.plainAttrs_list PySem.F.slot_list_append PySem.F.type_list_append mt_append (pv 2) (pa_cons (pe_tup (pa_cons (pv 4) (pa_cons (pe_call GOp (hr.mono (by omega)) (by rfl) gOp FOp.kp bOp .nil pass0 (pa_cons (pv 0) (pa_cons (pv 3) (pa_cons (pe_call GRe (hr.mono (by omega)) (by rfl) gRe FRe.kp bRe .nil pass0 (pa_cons (pv 0) (pa_cons (pv 3) pa_nil))) pa_nil)))) pa_nil))) pa_nil)))) (pss_one (ps_expr (pe_bm PySem.F.plainAttrs_list PySem.F.slot_list_append PySem.F.type_list_append mt_append (pv 2) (pa_cons (pe_non) pa_nil))))))))
      (pss_one (ps_ret (pv 2))))), ?_⟩
    obtain ⟨_, ca, ga, xs, e, hi, hc, hgt, hgs⟩ := inst_open hI
    cases e
    have lx := DpAll.len hgs
    rw [List.length_map] at lx
    have h10 := ok.g10
    refine ⟨.ref i, rfl, i, cs, gs, rfl, hI, ok, fun H1 Cr s1 hCr => ⟨Nat.zero_le _, fun Ro nRo => ?_⟩⟩
    obtain ⟨_, e, hCr⟩ := dI_ref hCr
    cases e
    have s2 := s1.trans (sameNew (o := .lst []) nRo)
    have fRo : H Ro = none := by
      cases e : H Ro with
      | none => rfl
      | some o => have := s1 _ _ e; rw [nRo] at this; cases this
    refine ⟨.ref i, rfl, i, _, 1, .ref ga, rfl, rfl, (TupK.of s2).sq hi, atI_nat (j := 1) rfl, ga, _, rfl, .inr ((TupK.of s2).sq hgt), _, rfl, by omega, by omega, for_it (walk_range (lo := 0) (n := ((xs.length : Nat) : Int).toNat))
      (fun j σ H3 => ∃ (y3 y4 : Option V) (vs : List V), σ = [some (.ref i), some (.ref Cr), some (.ref Ro), y3, y4] ∧ Same H1 H3 ∧ H3 Ro = some (.lst vs) ∧ RtAll K H3 vs ((gs.take j).map (routeOf cs gs)))
      ⟨none, none, [], rfl, sameNew nRo, upd_same, by simp [RtAll]⟩ (fun _ _ _ _ _ => trivial) ?_ ?_⟩
    · rintro j v σ H3 H4 hlt ⟨y3, y4, vs, rfl, s3, e3, hv3⟩ ⟨rfl, rfl⟩
      have hj : j < gs.length := by omega
      have hg : gs[j]? = some gs[j] := List.getElem?_eq_getElem hj
      have e0 : (0 : Int) + (j : Nat) = ((j : Nat) : Int) := by omega
      have sH := s1.trans s3
      have hI3 := (TupK.of sH).dp _ _ (to_dInst _ _) hI
      have hlv : vs.length = j := by rw [hv3.1, List.length_map, List.length_take]; omega
      dsimp only
      rw [e0]
      refine ⟨.ref i, rfl, .int (j : Nat), rfl, i, j, 0, cs, gs, gs[j], rfl, hI3, hg, Nat.zero_le _, ?_⟩
      refine ⟨_, rfl, .ref Cr, rfl, Cr, _, rfl, .inr ((TupK.of s3).sq hCr), ?_, flat_ints _, _, rfl, ?_⟩
      · unfold optV; split <;> rfl
      have esn : (gs.take (j + 1)).map (routeOf cs gs) = (gs.take j).map (routeOf cs gs) ++ [routeOf cs gs gs[j]] := by rw [take_snoc hg, List.map_append]; rfl
      have hcr := inV_opt gs[j].1 (rCro cs gs)
      refine ite2 (fun h1 => ?_) (fun h1 => ?_)
      · rw [if_neg (by decide), hcr] at h1
        obtain ⟨p, ps, hps, hpc⟩ : ∃ p ps, gs[j].1 = p :: ps ∧ (rCro cs gs).contains p = true := by
          cases e : gs[j].1 with
          | nil => rw [e] at h1; simp at h1
          | cons p ps => rw [e] at h1; exact ⟨p, ps, rfl, h1⟩
        have hr : routeOf cs gs gs[j] = some (p, gs[j].1[resOf gs[j].1 (rCla cs gs)]?) := by unfold routeOf; rw [hps]; simp only; rw [if_pos hpc]
        have ho : optV gs[j].1 0 = .int p := by unfold optV; rw [hps]; rfl
        rw [ho]
        refine ⟨.ref Ro, rfl, .inl ⟨rfl, _, SqL.of e3⟩, .int p, rfl, .ref i, rfl, .int (j : Nat), rfl, .ref i, rfl, .int (j : Nat), rfl, i, j, cs, gs, gs[j], rfl, hI3, ok, hg, fun H5 s5 => ?_⟩
        refine ⟨i, j, resOf gs[j].1 (rCla cs gs), cs, gs, gs[j], rfl, (TupK.of s5).dp _ _ (to_dInst _ _) hI3, hg, resOf_le _ _, (show (2 : Nat) ≤ sizeLine by decide), fun T nT => ?_⟩
        have sT := sameNew (o := .tup [.int p, optV gs[j].1 (resOf gs[j].1 (rCla cs gs))]) nT
        have e6 := (s5.trans sT) _ _ e3
        have tkp : TupK _ (upd (upd H5 T (.tup [.int p, optV gs[j].1 (resOf gs[j].1 (rCla cs gs))])) Ro (.lst (vs ++ [.ref T]))) := TupK.put e6
        refine ⟨Ro, vs, _, rfl, rfl, e6, by rw [hlv]; exact small (by omega), _, _, vs ++ [.ref T], rfl, samePut ((s3.trans s5).trans sT) nRo, upd_same, ?_⟩
        rw [esn, hr]
        refine RtAll.snoc (hv3.tk ((TupK.of (s5.trans sT)).trans tkp)) ⟨T, rfl, ?_⟩
        rw [← optV_oV]
        exact tkp.sq (SqT.of upd_same)
      · rw [if_neg (by decide), hcr] at h1
        have hr : routeOf cs gs gs[j] = none := by
          unfold routeOf
          cases e : gs[j].1 with
          | nil => rfl
          | cons p ps => rw [e] at h1; simp only; rw [if_neg h1]
        refine ⟨.ref Ro, rfl, .inl ⟨rfl, _, SqL.of e3⟩, Ro, vs, _, rfl, rfl, e3, by rw [hlv]; exact small (by omega), _, _, vs ++ [.non], rfl, samePut s3 nRo, upd_same, ?_⟩
        rw [esn, hr]
        exact RtAll.snoc (hv3.tk (TupK.put e3)) rfl
    rintro σ H3 ⟨y3, y4, vs, rfl, s3, e3, hv3⟩
    rw [lx, Int.toNat_natCast, List.take_length] at hv3
    exact ⟨_, rfl, q _ Ro vs (s1.trans s3) e3 hv3 fRo⟩
end
end Pv

namespace Pv
open PySem PySem.Spec PyProof.Rows L2
abbrev sMn : Stmt := topS 33
theorem scMn : FnScope ["instance", "numbers", "moved", "taken", "route", "number", "places"] ["instance", "numbers"] (defScope sMn) := ⟨rfl, rfl, rfl, by decide +kernel, rfl, by decide +kernel, by decide +kernel⟩
section
variable {P : Program} {w : World} {K : PySem.W.Frag} {mg : Str → Option Value} {base : Heap}
def spMn (K : PySem.W.Frag) : Sp := fun vs H Q _ => ∃ (i b : Addr) (cs : List Int) (gs : List Gp) (xs : List Int), vs = [.ref i, .ref b] ∧ Dp K H (.ref i) (dInst cs gs) ∧ InsOk cs gs ∧ SqT K H b (xs.map V.int) ∧ xs.length = gs.length ∧ ∀ H', Same H H' → Q (.bl (meetsD cs gs xs)) H'
set_option maxHeartbeats 2000000 in
theorem ok_Mn {f fGr fEx fFr : Addr} {fd fdGr fdEx fdFr : FuncData} (F : Fun K "meets_needs" "meets_needs" sMn f fd)
    (FGr : Fun K "group_routes" "group_routes" sGr fGr fdGr) (bGr : Binds K fdGr ["instance"] []) (gGr : mg "group_routes" = some (.ref fGr)) (GGr : FnOk P w K mg base CX0 5 fGr fdGr ["instance"] (spGr K))
    (FEx : Fun K "excesses" "excesses" sExc fEx fdEx) (bEx : Binds K fdEx ["instance"] []) (gEx : mg "excesses" = some (.ref fEx)) (GEx : FnOk P w K mg base CX0 2 fEx fdEx ["instance"] (spVec K rExc))
    (FFr : Fun K "free_places" "free_places" sFre fFr fdFr) (bFr : Binds K fdFr ["instance"] []) (gFr : mg "free_places" = some (.ref fFr)) (GFr : FnOk P w K mg base CX0 2 fFr fdFr ["instance"] (spVec K rFre))
    (m_len : mg "len" = none) (m_zip : mg "zip" = none) (m_list : mg "list" = none) (m_all : mg "all" = none) :
    FnOk P w K mg base CX0 6 f fd ["instance", "numbers"] (spMn K) := by
  refine F.ok scMn (fun vs H Q E h => ?_) (fun cdv A outer s H vs Q E hr h => ?_)
  · obtain ⟨i, b, cs, gs, xs, rfl, _⟩ := h; rfl
  · obtain ⟨i, b, cs, gs, xs, rfl, hI, ok, hB, lB, q⟩ := h
    have hu64 : (A.deeper (envOfC "meets_needs" (defScope sMn) s.heap.objs.size f cdv)).units + 64 < cLine := by have := hr.un; omega
    refine ⟨_, pss_cons (ps_set (i := 2) scMn.nd rfl (.inl rfl) (pe_op op_rep (pe_lst (pa_cons (pe_int) pa_nil)) (pe_callB call_lenQ (by rfl) m_len PySem.boot_len (pa_cons (pe_ix ix_tup (pv 0) (pe_int) (fun _ _ => rfl)) pa_nil))))
      (pss_cons (ps_set (i := 3) scMn.nd rfl (.inl rfl) (pe_op op_rep (pe_lst (pa_cons (pe_int) pa_nil)) (pe_callB call_lenQ (by rfl) m_len PySem.boot_len (pa_cons (pe_ix ix_tup (pv 0) (pe_int) (fun _ _ => rfl)) pa_nil))))
      (pss_cons (ps_for PassesOwn.never rfl (pi_zipM (by rfl) m_zip (pa_cons (pe_call GGr (hr.mono (by omega)) (by rfl) gGr FGr.kp bGr .nil pass0 (pa_cons (pv 0) pa_nil)) (pa_cons (pv 1) pa_nil))) (pg_tup rfl (pgs_cons (pg_name (i := 4) scMn.nd rfl (.inl rfl)) (pgs_cons (pg_name (i := 5) scMn.nd rfl (.inl rfl)) pgs_nil)))
        (pss_cons (ps_if (pt_cmp (pc_isN (pv 4)))
          (pss_cons (ps_if (pt_cmpR op_ne (pv 5) (pe_int) (nomark _))
            (pss_one (ps_ret (pe_bl))) pss_nil)
          (pss_one (ps_continue))) pss_nil)
        (pss_cons (ps_augS (pv 2) (pe_ix ix_tup (pv 4) (pe_int) (fun _ _ => rfl)) get_list (pv 5) ip_add set_list)
        (pss_one (ps_if (pt_cmp (pc_notN (pe_ix ix_tup (pv 4) (pe_int) (fun _ _ => rfl))))
          (pss_one (ps_augS (pv 3) (pe_ix ix_tup (pv 4) (pe_int) (fun _ _ => rfl)) get_list (pv 5) ip_add set_list)) pss_nil)))))
      (pss_cons (ps_if (pt_cmpR (op_neD hu64) (pv 2) (pe_callTy call_list_of (by rfl) m_list (by decide +kernel) (pa_cons (pe_call GEx (hr.mono (by omega)) (by rfl) gEx FEx.kp bEx .nil pass0 (pa_cons (pv 0) pa_nil)) pa_nil)) (nomark _))
        (pss_one (ps_ret (pe_bl))) pss_nil)
      (pss_one (ps_ret (pe_callB (cr_all rfl) (by rfl) m_all (by decide +kernel) (pa_cons (pe_lc (own := [("number", 5), ("places", 6)]) (g := gTup K 2 (gCons (gName 5) (gCons (gName 6) gNil))) (tt := tYes) (te := tOp (rI0 fun i j => .bl (decide (i ≤ j))) (tVar 5) (tVar 6)) rfl scMn.nd (pi_zipM (by rfl) m_zip (pa_cons (pv 3) (pa_cons (pe_call GFr (hr.mono (by omega)) (by rfl) gFr FFr.kp bFr .nil pass0 (pa_cons (pv 0) pa_nil)) pa_nil))) (blkOk_by (N := ["instance", "numbers", "moved", "taken", "route", "number", "places"]) (sc := defScope sMn) (by decide +kernel)) (fun _ _ _ _ _ => pg_tup rfl (pgs_cons (pg_name (i := 5) scMn.nd rfl (.inl rfl)) (pgs_cons (pg_name (i := 6) scMn.nd rfl (.inl rfl)) pgs_nil))) (fun _ _ _ _ _ => pts_nil) (fun _ _ _ _ _ => pe_cmpR op_le (pv 5) (pv 6) (nomark _))) pa_nil))))))), ?_⟩
    obtain ⟨_, ca, ga, ys, e, hi, hc, hgt, hgs⟩ := inst_open hI
    cases e
    have h6 := ok.c6
    have h10 := ok.g10
    have hsz : 1 * ((cs.map V.int).length : Int).toNat ≤ sizeLine := by rw [List.length_map]; have := small (n := cs.length) (by omega); omega
    refine ⟨(show (1 : Nat) ≤ sizeLine by decide), fun Z1 nZ1 => ⟨.ref i, rfl, i, _, 0, .ref ca, rfl, rfl, (TupK.new nZ1).sq hi, atI_nat (j := 0) rfl, ca, _, rfl, .inr ((TupK.new nZ1).sq hc), Z1, _, _, rfl, rfl, upd_same, by omega, by rw [List.length_map]; omega, hsz, fun Mo nMo => ?_⟩⟩
    have fMo : H Mo = none := freeOf nMo
    have s1 := samePut (o := .lst (List.replicate ((List.map V.int cs).length : Int).toNat [V.int 0]).flatten) (sameNew (o := .lst [.int 0]) nZ1) fMo
    have eM1 : (upd (upd H Z1 (.lst [.int 0])) Mo (.lst (List.replicate ((List.map V.int cs).length : Int).toNat [V.int 0]).flatten)) Mo = some (.lst ((zeros cs.length).map V.int)) := by rw [upd_same, List.length_map, Int.toNat_natCast, zeros_V]
    generalize upd (upd H Z1 (.lst [.int 0])) Mo (.lst (List.replicate ((List.map V.int cs).length : Int).toNat [V.int 0]).flatten) = H1 at s1 eM1
    refine ⟨(show (1 : Nat) ≤ sizeLine by decide), fun Z2 nZ2 => ⟨.ref i, rfl, i, _, 0, .ref ca, rfl, rfl, ((TupK.of s1).trans (TupK.new nZ2)).sq hi, atI_nat (j := 0) rfl, ca, _, rfl, .inr (((TupK.of s1).trans (TupK.new nZ2)).sq hc), Z2, _, _, rfl, rfl, upd_same, by omega, by rw [List.length_map]; omega, hsz, fun Ta nTa => ?_⟩⟩
    have fTa1 : H1 Ta = none := freeOf nTa
    have nMT : Mo ≠ Ta := ne_of_none eM1 fTa1
    have fTa : H Ta = none := by
      cases e : H Ta with
      | none => rfl
      | some o => have := s1 _ _ e; rw [fTa1] at this; cases this
    have s12 := samePut (o := .lst (List.replicate ((List.map V.int cs).length : Int).toNat [V.int 0]).flatten) (sameNew (o := .lst [.int 0]) nZ2) fTa1
    have eT2 : (upd (upd H1 Z2 (.lst [.int 0])) Ta (.lst (List.replicate ((List.map V.int cs).length : Int).toNat [V.int 0]).flatten)) Ta = some (.lst ((zeros cs.length).map V.int)) := by rw [upd_same, List.length_map, Int.toNat_natCast, zeros_V]
    generalize upd (upd H1 Z2 (.lst [.int 0])) Ta (.lst (List.replicate ((List.map V.int cs).length : Int).toNat [V.int 0]).flatten) = H2 at s12 eT2
    have eM2 := s12 _ _ eM1
    have s2 := s1.trans s12
    refine ⟨.ref i, rfl, i, cs, gs, rfl, (TupK.of s2).dp _ _ (to_dInst _ _) hI, ok, fun H3 Ro rv s3 eR hR fR => ?_⟩
    have nMR : Mo ≠ Ro := ne_of_none eM2 fR
    have nTR : Ta ≠ Ro := ne_of_none eT2 fR
    have s03 := s2.trans s3
    have lrv : rv.length = gs.length := by rw [hR.1, List.length_map]
    have hz : ∀ j, j < gs.length → (zsOf cs gs xs)[j]? = some (routeOf cs gs (gs.getD j ([], 0)), xs.getD j 0) := by
      intro j hj
      have h2 : j < xs.length := by omega
      unfold zsOf
      rw [List.getElem?_zip_eq_some]
      simp [List.getD_eq_getElem?_getD, List.getElem?_eq_getElem hj, List.getElem?_eq_getElem h2]
    have lz : (zsOf cs gs xs).length = gs.length := by simp [zsOf]; omega
    refine ⟨.ref b, rfl, Ro, b, _, _, rfl, SqL.of eR, (TupK.of s03).sq hB, for_it (walk_zipM (K := K) (a := Ro) (b := b) (xs := rv) (ys := xs.map V.int) rfl)
      (fun j σ H4 => ∃ (y4 y5 : Option V), σ = [some (.ref i), some (.ref b), some (.ref Mo), some (.ref Ta), y4, y5, none] ∧ Same H H4 ∧ TupK H3 H4 ∧ H4 Ro = some (.lst rv) ∧ H4 Mo = some (.lst ((mvOf cs.length ((zsOf cs gs xs).take j)).1.map V.int)) ∧ H4 Ta = some (.lst ((mvOf cs.length ((zsOf cs gs xs).take j)).2.map V.int)) ∧ ((zsOf cs gs xs).take j).all goodZ = true)
      ⟨none, none, rfl, s03, .refl _, eR, s3 _ _ eM2, s3 _ _ eT2, rfl⟩ (fun j σ H4 _ h => by obtain ⟨_, _, _, s4, _, eR4, _⟩ := h; exact ⟨SqL.of eR4, (TupK.of s4).sq hB⟩) ?_ ?_⟩
    · rintro j v σ H4 H5 hlt ⟨y4, y5, rfl, s4, tk4, eR4, eM4, eT4, hgd⟩ ⟨T, x, y, rfl, nT, rfl, ex, ey⟩
      rw [List.length_map] at hlt
      have hj : j < gs.length := by omega
      have hg : gs[j]? = some gs[j] := List.getElem?_eq_getElem hj
      have hjx : j < xs.length := by omega
      have ex : rv[j]? = some x := ex
      have ey : (xs.map V.int)[j]? = some y := ey
      rw [List.getElem?_map, List.getElem?_eq_getElem hjx] at ey
      cases ey
      have hzj : (zsOf cs gs xs)[j]? = some (routeOf cs gs gs[j], xs[j]) := by rw [hz j hj]; simp [List.getD_eq_getElem?_getD, hg, List.getElem?_eq_getElem hjx]
      have hrt := hR.2 j x (routeOf cs gs gs[j]) ex (by rw [List.getElem?_map, hg]; rfl)
      have sT := sameNew (o := .tup [x, .int xs[j]]) nT
      have s5 := s4.trans sT
      have tk5 := tk4.trans (TupK.of sT)
      have eM5 := sT _ _ eM4
      have eT5 := sT _ _ eT4
      have eR5 := sT _ _ eR4
      obtain ⟨lm, lt⟩ := mvOf_len cs.length ((zsOf cs gs xs).take j)
      have esn : mvOf cs.length ((zsOf cs gs xs).take (j + 1)) = mvStep (mvOf cs.length ((zsOf cs gs xs).take j)) (routeOf cs gs gs[j], xs[j]) := by rw [take_snoc hzj, mvOf_snoc]
      have ags : ((zsOf cs gs xs).take (j + 1)).all goodZ = goodZ (routeOf cs gs gs[j], xs[j]) := by rw [take_snoc hzj, List.all_append, hgd]; simp
      refine ⟨T, _, rfl, SqT.of upd_same, rfl, _, _, rfl, _, _, rfl, rfl, ?_⟩
      generalize upd H4 T (.tup [x, .int xs[j]]) = H6 at sT s5 tk5 eM5 eT5 eR5
      cases hr : routeOf cs gs gs[j] with
      | none =>
        rw [hr] at hrt esn ags hzj
        have hrt : x = .non := hrt
        subst hrt
        refine ⟨.non, rfl, _, rfl, iteT ⟨.int xs[j], rfl, rfl, _, rfl, ite2 (fun h1 => ?_) (fun h1 => ?_)⟩⟩
        · have h1 : xs[j] ≠ 0 := by intro e; rw [e] at h1; simp at h1
          have hf : meetsD cs gs xs = false := by
            have : (zsOf cs gs xs).all goodZ = false := by
              rw [List.all_eq_false]
              exact ⟨_, List.mem_of_getElem? hzj, by simp [goodZ, h1]⟩
            unfold meetsD
            rw [this]; rfl
          rw [hf] at q
          exact q _ s5
        · have h1 : xs[j] = 0 := by
            by_cases e : xs[j] = 0
            · exact e
            · exact absurd (by simp [e]) h1
          exact ⟨_, _, rfl, s5, tk5, eR5, by rw [esn]; exact eM5, by rw [esn]; exact eT5, by rw [ags]; simp [goodZ, h1]⟩
      | some rr =>
        obtain ⟨p0, q0⟩ := rr
        obtain ⟨hp0, hq0⟩ := route_in ok (List.getElem_mem hj) hr
        rw [hr] at hrt esn ags
        obtain ⟨Tt, rfl, hTt⟩ := hrt
        have hTt6 := tk5.sq hTt
        obtain ⟨pn, rfl⟩ : ∃ pn : Nat, p0 = pn := ⟨p0.toNat, by simp only at hp0; omega⟩
        have hpl : pn < (mvOf cs.length ((zsOf cs gs xs).take j)).1.length := by simp only at hp0; omega
        refine ⟨.ref Tt, rfl, _, rfl, iteF ?_⟩
        refine ⟨.ref Mo, rfl, .ref Tt, rfl, Tt, _, 0, .int pn, rfl, rfl, hTt6, atI_nat (j := 0) rfl, Mo, _, pn, .int (mvOf cs.length ((zsOf cs gs xs).take j)).1[pn], rfl, rfl, SqL.of eM5, by rw [List.getElem?_map, List.getElem?_eq_getElem hpl]; rfl, .int xs[j], rfl, _, _, rfl, rfl, Mo, _, _, pn, rfl, rfl, eM5, ixN_nat (by rw [List.length_map]; exact hpl), ?_⟩
        have hset : ((mvOf cs.length ((zsOf cs gs xs).take j)).1.map V.int).set pn (.int ((mvOf cs.length ((zsOf cs gs xs).take j)).1[pn] + xs[j])) = (addAt (mvOf cs.length ((zsOf cs gs xs).take j)).1 pn xs[j]).map V.int := by
          unfold addAt
          rw [Int.toNat_natCast, List.getD_eq_getElem?_getD, List.getElem?_eq_getElem hpl, List.map_set]
          rfl
        dsimp only
        rw [hset]
        have s7 := samePut (o := .lst ((addAt (mvOf cs.length ((zsOf cs gs xs).take j)).1 pn xs[j]).map V.int)) s5 fMo
        have tk7 := tk5.trans (TupK.put (o := .lst ((addAt (mvOf cs.length ((zsOf cs gs xs).take j)).1 pn xs[j]).map V.int)) eM5)
        have eM7 : (upd H6 Mo (.lst ((addAt (mvOf cs.length ((zsOf cs gs xs).take j)).1 pn xs[j]).map V.int))) Mo = some (.lst ((addAt (mvOf cs.length ((zsOf cs gs xs).take j)).1 pn xs[j]).map V.int)) := upd_same
        have eT7 : (upd H6 Mo (.lst ((addAt (mvOf cs.length ((zsOf cs gs xs).take j)).1 pn xs[j]).map V.int))) Ta = some (.lst ((mvOf cs.length ((zsOf cs gs xs).take j)).2.map V.int)) := by rw [upd_ne nMT.symm]; exact eT5
        have eR7 : (upd H6 Mo (.lst ((addAt (mvOf cs.length ((zsOf cs gs xs).take j)).1 pn xs[j]).map V.int))) Ro = some (.lst rv) := by rw [upd_ne nMR.symm]; exact eR5
        generalize upd H6 Mo (.lst ((addAt (mvOf cs.length ((zsOf cs gs xs).take j)).1 pn xs[j]).map V.int)) = H7 at s7 tk7 eM7 eT7 eR7
        have hTt7 := tk7.sq hTt
        have hgood : ((zsOf cs gs xs).take (j + 1)).all goodZ = true := by rw [ags]; simp [goodZ]
        cases q0 with
        | none =>
          refine ⟨.ref Tt, rfl, Tt, _, 1, .non, rfl, rfl, hTt7, atI_nat (j := 1) rfl, _, rfl, iteFF (by simp) ?_⟩
          exact ⟨_, _, rfl, s7, tk7, eR7, by rw [esn]; exact eM7, by rw [esn]; exact eT7, hgood⟩
        | some y0 =>
          have hy0 := hq0 y0 rfl
          obtain ⟨yn, rfl⟩ : ∃ yn : Nat, y0 = yn := ⟨y0.toNat, by omega⟩
          have hyl : yn < (mvOf cs.length ((zsOf cs gs xs).take j)).2.length := by omega
          refine ⟨.ref Tt, rfl, Tt, _, 1, .int yn, rfl, rfl, hTt7, atI_nat (j := 1) rfl, _, rfl, iteTT (by simp) ?_⟩
          refine ⟨.ref Ta, rfl, .ref Tt, rfl, Tt, _, 1, .int yn, rfl, rfl, hTt7, atI_nat (j := 1) rfl, Ta, _, yn, .int (mvOf cs.length ((zsOf cs gs xs).take j)).2[yn], rfl, rfl, SqL.of eT7, by rw [List.getElem?_map, List.getElem?_eq_getElem hyl]; rfl, .int xs[j], rfl, _, _, rfl, rfl, Ta, _, _, yn, rfl, rfl, eT7, ixN_nat (by rw [List.length_map]; exact hyl), ?_⟩
          refine ⟨_, _, rfl, samePut s7 fTa, tk7.trans (TupK.put eT7), by rw [upd_ne nTR.symm]; exact eR7, by rw [upd_ne nMT, esn]; exact eM7, ?_, hgood⟩
          rw [upd_same, esn]
          show _ = some (HO.lst ((addAt (mvOf cs.length ((zsOf cs gs xs).take j)).2 yn xs[j]).map V.int))
          unfold addAt
          rw [Int.toNat_natCast, List.getD_eq_getElem?_getD, List.getElem?_eq_getElem hyl, List.map_set]
          rfl
    rintro σ H4 ⟨y4, y5, rfl, s4, tk4, eR4, eM4, eT4, hgd⟩
    have hmin : min rv.length (xs.map V.int).length = (zsOf cs gs xs).length := by rw [List.length_map]; omega
    rw [hmin, List.take_length] at eM4 eT4 hgd
    refine ⟨.ref Mo, rfl, .ref i, rfl, i, cs, gs, rfl, (TupK.of s4).dp _ _ (to_dInst _ _) hI, ok, fun H5 Ex s5 hEx => ?_⟩
    obtain ⟨_, e, hEx⟩ := dI_ref hEx
    cases e
    refine ⟨Ex, _, rfl, .inr hEx, fun Le nLe => ?_⟩
    have sL := s5.trans (sameNew (o := .lst ((rExc cs gs).map V.int)) nLe)
    refine ⟨.list ((mvOf cs.length (zsOf cs gs xs)).1.map PyData.int), .list ((rExc cs gs).map PyData.int), .lst (SqL.of (sL _ _ eM4)) (dp_ints _), .lst (SqL.of upd_same) (dp_ints _), shaped_ints _, shaped_ints _, _, rfl, ?_⟩
    rw [eqv_intsL]
    have s04 := s4.trans sL
    refine ite2 (fun h1 => ?_) (fun h1 => ?_)
    · have hf : meetsD cs gs xs = false := by
        unfold meetsD
        have : decide ((mvOf cs.length (zsOf cs gs xs)).1 = rExc cs gs) = false := by simpa using h1
        rw [this]; simp
      rw [hf] at q
      exact q _ s04
    have h1 : (mvOf cs.length (zsOf cs gs xs)).1 = rExc cs gs := by simpa using h1
    refine ⟨.ref Ta, rfl, .ref i, rfl, i, cs, gs, rfl, (TupK.of s04).dp _ _ (to_dInst _ _) hI, ok, fun H6 Fr s6 hFr => ?_⟩
    obtain ⟨_, e, hFr⟩ := dI_ref hFr
    cases e
    have eT6 := (sL.trans s6) _ _ eT4
    have s06 := s04.trans s6
    have lt2 := (mvOf_len cs.length (zsOf cs gs xs)).2
    refine ⟨Ta, Fr, _, _, rfl, SqL.of eT6, hFr, fun D nD => lc_it (walk_zipM (K := K) (a := Ta) (b := Fr) (xs := (mvOf cs.length (zsOf cs gs xs)).2.map V.int) (ys := (rFre cs gs).map V.int) rfl)
      (fun j H7 => Same H6 H7 ∧ H7 D = some (.lst (((((mvOf cs.length (zsOf cs gs xs)).2.zip (rFre cs gs)).take j).map (fun z => decide (z.1 ≤ z.2))).map V.bl))) ⟨sameNew nD, upd_same⟩ (fun j H7 _ h => ⟨SqL.of (h.1 _ _ eT6), (TupK.of h.1).sq hFr⟩) ?_ ?_⟩
    · rintro j v H7 H8 hlt ⟨s7, e7⟩ ⟨T, x, y, rfl, nT, rfl, ex, ey⟩
      rw [List.length_map, List.length_map] at hlt
      have hj1 : j < (mvOf cs.length (zsOf cs gs xs)).2.length := by omega
      have hj2 : j < (rFre cs gs).length := by omega
      have ex : ((mvOf cs.length (zsOf cs gs xs)).2.map V.int)[j]? = some x := ex
      have ey : ((rFre cs gs).map V.int)[j]? = some y := ey
      rw [List.getElem?_map, List.getElem?_eq_getElem hj1] at ex
      rw [List.getElem?_map, List.getElem?_eq_getElem hj2] at ey
      cases ex
      cases ey
      have sT := sameNew (o := .tup [.int (mvOf cs.length (zsOf cs gs xs)).2[j], .int (rFre cs gs)[j]]) nT
      have hq : ((mvOf cs.length (zsOf cs gs xs)).2.zip (rFre cs gs))[j]? = some ((mvOf cs.length (zsOf cs gs xs)).2[j], (rFre cs gs)[j]) := by rw [List.getElem?_zip_eq_some]; exact ⟨List.getElem?_eq_getElem hj1, List.getElem?_eq_getElem hj2⟩
      refine ⟨T, _, rfl, SqT.of upd_same, rfl, _, _, rfl, _, _, rfl, rfl, rfl, .int (mvOf cs.length (zsOf cs gs xs)).2[j], rfl, .int (rFre cs gs)[j], rfl, _, _, rfl, rfl, _, sT _ _ e7, ?_, samePut (s7.trans sT) nD, ?_⟩
      · rw [List.length_map, List.length_map, List.length_take]; exact small (by omega)
      · rw [upd_same, take_snoc hq, List.map_append, List.map_append]; rfl
    rintro H7 ⟨s7, e7⟩
    refine ⟨D, _, rfl, SqL.of e7, ?_⟩
    have hm2 : meetsD cs gs xs = (((((mvOf cs.length (zsOf cs gs xs)).2.zip (rFre cs gs)).take (min ((mvOf cs.length (zsOf cs gs xs)).2.map V.int).length ((rFre cs gs).map V.int).length)).map (fun z => decide (z.1 ≤ z.2))).all id) := by
      rw [List.take_of_length_le (by rw [List.length_zip, List.length_map, List.length_map]; exact Nat.le_refl _), List.all_map]
      unfold meetsD
      rw [hgd, decide_eq_true h1]
      rfl
    rw [← hm2]
    exact q _ (s06.trans s7)
end
end Pv

namespace Pv
open PySem PySem.Spec PyProof.Rows L2
abbrev sIv : Stmt := topS 32
theorem scIv : FnScope ["instance", "value", "groups", "posts", "count", "number"] ["instance", "value"] (defScope sIv) := ⟨rfl, rfl, rfl, by decide +kernel, rfl, by decide +kernel, by decide +kernel⟩
section
variable {P : Program} {w : World} {K : PySem.W.Frag} {mg : Str → Option Value} {base : Heap}
def spIv (K : PySem.W.Frag) : Sp := fun vs H Q _ => ∃ (st r i : Addr) (v : V) (cs : List Int) (gs : List Gp) (d : PyData), vs = [.ref i, v] ∧ Dp K H (.ref i) (dInst cs gs) ∧ InsOk cs gs ∧ Dq K st r H v d ∧ ∀ H', Same H H' → Q (.bl (isVecD cs gs d)) H'
set_option maxHeartbeats 2000000 in
theorem ok_Iv {f fTo fWi fMn : Addr} {fd fdTo fdWi fdMn : FuncData} (F : Fun K "is_vector" "is_vector" sIv f fd)
    (FTo : Fun K "is_tuple_of" "is_tuple_of" sTupOf fTo fdTo) (bTo : Binds K fdTo ["value", "least", "most"] []) (gTo : mg "is_tuple_of" = some (.ref fTo)) (GTo : FnOk P w K mg base CX0 1 fTo fdTo ["value", "least", "most"] (spTupOf K))
    (FWi : Fun K "is_within" "is_within" sWithin fWi fdWi) (bWi : Binds K fdWi ["value", "least", "most"] []) (gWi : mg "is_within" = some (.ref fWi)) (GWi : FnOk P w K mg base CX0 2 fWi fdWi ["value", "least", "most"] (spWithin K))
    (FMn : Fun K "meets_needs" "meets_needs" sMn fMn fdMn) (bMn : Binds K fdMn ["instance", "numbers"] []) (gMn : mg "meets_needs" = some (.ref fMn)) (GMn : FnOk P w K mg base CX0 6 fMn fdMn ["instance", "numbers"] (spMn K))
    (m_len : mg "len" = none) (m_zip : mg "zip" = none) (m_all : mg "all" = none) :
    FnOk P w K mg base CX0 7 f fd ["instance", "value"] (spIv K) := by
  refine F.ok scIv (fun vs H Q E h => ?_) (fun cdv A outer s H vs Q E hr h => ?_)
  · obtain ⟨st, r, i, v, cs, gs, d, rfl, _⟩ := h; rfl
  · obtain ⟨st, r, i, v, cs, gs, d, rfl, hI, ok, hv, q⟩ := h
    refine ⟨_, pss_cons (ps_set (i := 2) scIv.nd rfl (.inl rfl) (pe_ix ix_tup (pv 0) (pe_int) (fun _ _ => rfl)))
      (pss_cons (ps_if (pt_not (pt_val (pe_call GTo (hr.mono (by omega)) (by rfl) gTo FTo.kp bTo .nil pass0 (pa_cons (pv 1) (pa_cons (pe_callB call_lenQ (by rfl) m_len PySem.boot_len (pa_cons (pv 2) pa_nil)) (pa_cons (pe_callB call_lenQ (by rfl) m_len PySem.boot_len (pa_cons (pv 2) pa_nil)) pa_nil))))))
        (pss_one (ps_ret (pe_bl))) pss_nil)
      (pss_cons (ps_if (pt_not (pt_val (pe_callB (cr_all rfl) (by rfl) m_all (by decide +kernel) (pa_cons (pe_lc (own := [("posts", 3), ("count", 4), ("number", 5)]) (g := gTup K 2 (gCons (gTup K 2 (gCons (gName 3) (gCons (gName 4) gNil))) (gCons (gName 5) gNil))) (tt := tYes) (te := tCall (spWithin K) [] E0 (tCons (tVar 5) (tCons (tC (.int 0)) (tCons (tVar 4) tNil)))) rfl scIv.nd (RZ.pi_zipA (by rfl) m_zip (pa_cons (pv 2) (pa_cons (pv 1) pa_nil))) (blkOk_by (N := ["instance", "value", "groups", "posts", "count", "number"]) (sc := defScope sIv) (by decide +kernel)) (fun _ _ _ _ _ => pg_tup rfl (pgs_cons (pg_tup rfl (pgs_cons (pg_name (i := 3) scIv.nd rfl (.inl rfl)) (pgs_cons (pg_name (i := 4) scIv.nd rfl (.inl rfl)) pgs_nil))) (pgs_cons (pg_name (i := 5) scIv.nd rfl (.inl rfl)) pgs_nil))) (fun _ _ _ _ _ => pts_nil) (fun _ _ _ _ _ => pe_call GWi (hr.mono (by omega)) (by rfl) gWi FWi.kp bWi .nil pass0 (pa_cons (pv 5) (pa_cons (pe_int) (pa_cons (pv 4) pa_nil))))) pa_nil))))
        (pss_one (ps_ret (pe_bl))) pss_nil)
      (pss_one (ps_ret (pe_call GMn (hr.mono (by omega)) (by rfl) gMn FMn.kp bMn .nil pass0 (pa_cons (pv 0) (pa_cons (pv 1) pa_nil))))))), ?_⟩
    obtain ⟨_, ca, ga, ys, e, hi, hc, hgt, hgs⟩ := inst_open hI
    cases e
    have lx := DpAll.len hgs
    rw [List.length_map] at lx
    have h10 := ok.g10
    refine ⟨.ref i, rfl, i, _, 1, .ref ga, rfl, rfl, hi, atI_nat (j := 1) rfl, ?_⟩
    refine ⟨v, rfl, .ref ga, rfl, ga, _, rfl, .inr hgt, .ref ga, rfl, ga, _, rfl, .inr hgt, st, r, v, d, _, _, rfl, hv, ?_⟩
    rw [lx]
    cases hb : tupOfD (gs.length : Nat) (gs.length : Nat) d with
    | false =>
      refine ⟨_, rfl, iteT ?_⟩
      have : isVecD cs gs d = false := by unfold isVecD; rw [hb]; rfl
      rw [this] at q
      exact q _ (Same.refl _)
    | true =>
    refine ⟨_, rfl, iteF ?_⟩
    obtain ⟨ds, rfl, hdl⟩ : ∃ ds, d = .tuple ds ∧ ds.length = gs.length := by
      cases d with
      | tuple ds => exact ⟨ds, rfl, by have := of_decide_eq_true hb; omega⟩
      | _ => simp [tupOfD] at hb
    obtain ⟨b, rfl, zs, hB, hzs⟩ : ∃ b, v = .ref b ∧ ∃ zs, SqT K H b zs ∧ DqAll K st r H zs ds := by
      cases hv with
      | tup h1 h2 => exact ⟨_, rfl, _, h1, h2⟩
    have lzs := DqAll.len hzs
    refine ⟨.ref ga, rfl, .ref b, rfl, ga, b, _, _, rfl, .inr ⟨hgt, hB, fun D nD => lc_it (walk_zipT (K := K) (a := ga) (b := b) (xs := ys) (ys := zs) rfl)
      (fun j H2 => Same H H2 ∧ H2 D = some (.lst ((((gs.zip ds).take j).map (fun z => withinD 0 z.1.2 z.2)).map V.bl))) ⟨sameNew nD, upd_same⟩ (fun j H2 _ h => ⟨(TupK.of h.1).sq hgt, (TupK.of h.1).sq hB⟩) ?_ ?_⟩⟩
    · rintro j x H2 H3 hlt ⟨s2, e2⟩ ⟨T, x0, y0, rfl, nT, rfl, ex, ey⟩
      have hj : j < gs.length := by omega
      have hg : gs[j]? = some gs[j] := List.getElem?_eq_getElem hj
      have ex : ys[j]? = some x0 := ex
      have ey : zs[j]? = some y0 := ey
      obtain ⟨dg, hdg, hxd⟩ := DpAll.at hgs ex
      rw [List.getElem?_map, hg] at hdg
      cases hdg
      obtain ⟨gA, pA, rfl, hG, hP⟩ := grp_ref hxd
      obtain ⟨dy, hdy, hyd⟩ := DqAll.at hzs ey
      have sT := sameNew (o := .tup [.ref gA, y0]) nT
      have s3 := s2.trans sT
      have hq : (gs.zip ds)[j]? = some (gs[j], dy) := by rw [List.getElem?_zip_eq_some]; exact ⟨hg, hdy⟩
      refine ⟨T, _, rfl, SqT.of upd_same, rfl, _, _, rfl, gA, _, rfl, (TupK.of s3).sq hG, rfl, _, _, rfl, _, _, rfl, rfl, _, _, rfl, rfl, rfl, y0, rfl, .int gs[j].2, rfl, st, r, y0, dy, _, _, rfl, hyd.lasts (.of s3), ?_⟩
      refine ⟨_, sT _ _ e2, ?_, samePut s3 nD, ?_⟩
      · rw [List.length_map, List.length_map, List.length_take]; exact small (by omega)
      · rw [upd_same, take_snoc hq, List.map_append, List.map_append]; rfl
    rintro H2 ⟨s2, e2⟩
    rw [List.take_of_length_le (by rw [List.length_zip]; omega)] at e2
    refine ⟨D, _, rfl, SqL.of e2, ?_⟩
    rw [List.all_map]
    cases hb2 : (gs.zip ds).all (id ∘ fun z => withinD 0 z.1.2 z.2) with
    | false =>
      refine ⟨_, rfl, iteT ?_⟩
      have : isVecD cs gs (.tuple ds) = false := by unfold isVecD; rw [hb, show (gs.zip (tupIt (.tuple ds))).all (fun z => withinD 0 z.1.2 z.2) = false from hb2]; rfl
      rw [this] at q
      exact q _ s2
    | true =>
    refine ⟨_, rfl, iteF ?_⟩
    have hint : ∀ d ∈ ds, ∃ x, d = PyData.int x := by
      intro d hd
      obtain ⟨j, hj, e⟩ := List.mem_iff_getElem.mp hd
      have hjg : j < gs.length := by omega
      have hq : (gs.zip ds)[j]? = some (gs[j], ds[j]) := by rw [List.getElem?_zip_eq_some]; exact ⟨List.getElem?_eq_getElem hjg, List.getElem?_eq_getElem hj⟩
      have h1 := List.all_eq_true.mp hb2 _ (List.mem_of_getElem? hq)
      rw [← e]
      have h1 : withinD 0 gs[j].2 ds[j] = true := h1
      cases hds : ds[j] with
      | int x => exact ⟨x, rfl⟩
      | _ => rw [hds] at h1; simp [withinD] at h1
    have hzv := ints_vals hint hzs
    rw [hzv] at hB
    have hfin : isVecD cs gs (.tuple ds) = meetsD cs gs (ds.map intAt) := by
      unfold isVecD
      rw [hb, show (gs.zip (tupIt (.tuple ds))).all (fun z => withinD 0 z.1.2 z.2) = true from hb2]; rfl
    rw [hfin] at q
    exact ⟨.ref i, rfl, .ref b, rfl, i, b, cs, gs, ds.map intAt, rfl, (TupK.of s2).dp _ _ (to_dInst _ _) hI, ok, (TupK.of s2).sq hB, by rw [List.length_map]; exact hdl, fun H3 s3 => q _ (s2.trans s3)⟩
end
end Pv

namespace Pv
open PySem PySem.Spec PyProof.Rows L2
abbrev sLd : Stmt := topS 45
theorem scLd : FnScope ["_law_instance_here", "_law_found", "_law_posts", "_law_count"] ["_law_instance_here"] (defScope sLd) := ⟨rfl, rfl, rfl, by decide +kernel, rfl, by decide +kernel, by decide +kernel⟩
section
variable {P : Program} {w : World} {K : PySem.W.Frag} {mg : Str → Option Value} {base : Heap}
def spLd (K : PySem.W.Frag) : Sp := fun vs H Q _ => ∃ (i : Addr) (cs : List Int) (gs : List Gp), vs = [.ref i] ∧ Dp K H (.ref i) (dInst cs gs) ∧ InsOk cs gs ∧ ∀ H' p, Same H H' → H' p = some (.lst ((rDem cs gs).map V.int)) → H p = none → Q (.ref p) H'
set_option maxHeartbeats 2000000 in
theorem ok_Ld {f : Addr} {fd : FuncData} (F : Fun K "_law_demand" "_law_demand" sLd f fd)
    (m_len : mg "len" = none) :
    FnOk P w K mg base CX0 1 f fd ["_law_instance_here"] (spLd K) := by
  refine F.ok scLd (fun vs H Q E h => ?_) (fun cdv A outer s H vs Q E hr h => ?_)
  · obtain ⟨i, cs, gs, rfl, _⟩ := h; rfl
  · obtain ⟨i, cs, gs, rfl, hI, ok, q⟩ := h
    have hu64 : (A.deeper (envOfC "_law_demand" (defScope sLd) s.heap.objs.size f cdv)).units + 64 < cLine := by have := hr.un; omega
    have hu0 : (A.deeper (envOfC "_law_demand" (defScope sLd) s.heap.objs.size f cdv)).units < cLine := by have := hr.un; omega
    refine ⟨_, pss_cons (ps_set (i := 1) scLd.nd rfl (.inl rfl) (pe_op op_rep (pe_lst (pa_cons (pe_int) pa_nil)) (pe_callB call_lenQ (by rfl) m_len PySem.boot_len (pa_cons (pe_ix ix_tup (pv 0) (pe_int) (fun _ _ => rfl)) pa_nil))))
      (pss_cons (ps_for PassesOwn.never rfl (pi_tup (pe_ix ix_tup (pv 0) (pe_int) (fun _ _ => rfl))) (pg_tup rfl (pgs_cons (pg_name (i := 2) scLd.nd rfl (.inl rfl)) (pgs_cons (pg_name (i := 3) scLd.nd rfl (.inl rfl)) pgs_nil)))
        (pss_one (ps_if (pt_cmpR (op_neNilT hu0) (pv 2) (pe_tup (pa_nil)) (nomark _))
          (pss_one (ps_asg (pe_op op_add (pe_ix ix_list (pv 1) (pe_ix ix_tup (pv 2) (pe_int) (fun _ _ => rfl)) (fun _ _ => rfl)) (pv 3)) (pg_sub (pv 1) (pe_ix ix_tup (pv 2) (pe_int) (fun _ _ => rfl)) set_list))) pss_nil)))
      (pss_one (ps_ret (pv 1)))), ?_⟩
    obtain ⟨_, ca, ga, xs, e, hi, hc, hg, hgs⟩ := inst_open hI
    cases e
    have h6 := ok.c6
    refine ⟨by decide, fun p0 n0 => ⟨.ref i, rfl, i, _, 0, .ref ca, rfl, rfl, (TupK.new n0).sq hi, atI_nat (j := 0) rfl, ca, _, rfl, .inr ((TupK.new n0).sq hc), p0, _, _, rfl, rfl, upd_same, by omega, ?_, ?_, fun L nL => ?_⟩⟩
    · rw [List.length_map]; omega
    · rw [List.length_map]; show 1 * _ ≤ sizeLine; have := small (n := cs.length) (by omega); simp; omega
    have fL : H L = none := freeOf nL
    have s1 : Same H (upd (upd H p0 (.lst [.int 0])) L (.lst (List.replicate ((List.map V.int cs).length : Int).toNat [V.int 0]).flatten)) := samePut (sameNew n0) fL
    refine ⟨.ref i, rfl, i, _, 1, .ref ga, rfl, rfl, (TupK.of s1).sq hi, atI_nat (j := 1) rfl, ga, rfl, ⟨_, (TupK.of s1).sq hg⟩, for_it (walk_tup (K := K) (a := ga) (xs := xs))
      (fun i' σ H2 => ∃ y2 y3, σ = [some (.ref i), some (.ref L), y2, y3] ∧ Same H H2 ∧ H2 L = some (.lst ((demOf cs.length (gs.take i')).map V.int)))
      ⟨none, none, rfl, s1, ?_⟩ ?_ ?_ ?_⟩
    · rw [upd_same, List.length_map, Int.toNat_natCast, zeros_V]; rfl
    · rintro i' σ H2 _ ⟨y2, y3, rfl, s2, e2⟩
      exact (TupK.of s2).sq hg
    · rintro i' v σ H2 H3 hlt ⟨y2, y3, rfl, s2, e2⟩ ⟨rfl, hx⟩
      obtain ⟨d, hd, hxd⟩ := DpAll.at hgs hx
      rw [List.getElem?_map] at hd
      obtain ⟨g, hgi, rfl⟩ := Option.map_eq_some_iff.mp hd
      obtain ⟨gA, pA, rfl, hG, hP⟩ := grp_ref hxd
      have tk := TupK.of s2
      have hsn := demOf_snoc (n := cs.length) hgi
      have hgp := (ok.gp g (List.mem_of_getElem? hgi)).2.1
      have hdl := demOf_len cs.length (gs.take i')
      generalize hcur : demOf cs.length (gs.take i') = cur at e2 hsn hdl
      refine ⟨gA, _, rfl, tk.sq hG, rfl, _, _, rfl, _, _, rfl, rfl, ?_⟩
      refine ⟨.ref pA, rfl, Nat.zero_le _, fun Em nEm => ?_⟩
      have sE := sameNew (o := .tup []) nEm
      have tkE := tk.trans (TupK.of sE)
      have eE := sE _ _ e2
      refine ⟨pA, Em, _, rfl, rfl, tkE.sq hP, SqT.of upd_same, _, rfl, ?_⟩
      generalize upd H3 Em (.tup []) = H4 at sE tkE eE
      have sH := s2.trans sE
      cases hgg : g.1 with
      | nil =>
        refine iteF ⟨_, _, rfl, sH, ?_⟩
        rw [eE, hsn]
        unfold dAdd
        rw [hgg]
      | cons pp ps =>
        refine iteT ?_
        have hpr := hgp pp (by rw [hgg]; simp)
        obtain ⟨pn, rfl⟩ : ∃ pn : Nat, pp = pn := ⟨pp.toNat, by omega⟩
        have hpl : pn < cur.length := by omega
        have hP0 := tkE.sq hP
        have hcv : (cur.map V.int)[pn]? = some (.int cur[pn]) := by rw [List.getElem?_map, List.getElem?_eq_getElem hpl]; rfl
        have h0 : (g.1.map V.int)[0]? = some (.int (pn : Nat)) := by rw [hgg]; rfl
        refine ⟨.ref L, rfl, .ref pA, rfl, pA, _, 0, .int pn, rfl, rfl, hP0, atI_nat (j := 0) h0, L, _, _, .int cur[pn], rfl, rfl, SqL.of eE, atI_nat hcv, .int g.2, rfl, _, _, rfl, rfl, .ref L, rfl, .ref pA, rfl, pA, _, 0, .int pn, rfl, rfl, hP0, atI_nat (j := 0) h0, L, _, _, pn, rfl, rfl, eE, ixN_nat (by rw [List.length_map]; exact hpl), ?_⟩
        refine ⟨_, _, rfl, samePut sH fL, ?_⟩
        rw [upd_same, hsn]
        unfold dAdd
        rw [hgg]
        show _ = some (HO.lst ((addAt cur pn g.2).map V.int))
        unfold addAt
        rw [Int.toNat_natCast, List.getD_eq_getElem?_getD, List.getElem?_eq_getElem hpl, List.map_set]
        rfl
    · rintro σ H2 ⟨y2, y3, rfl, s2, e2⟩
      rw [DpAll.len hgs, List.length_map, List.take_length] at e2
      exact ⟨_, rfl, q _ L s2 e2 fL⟩
end
end Pv

namespace Pv
open PySem PySem.Spec PyProof.Rows L2
abbrev sLr : Stmt := topS 46
theorem scLr : FnScope ["_law_instance_here", "_law_group", "_law_posts", "_law_demand_here", "_law_k"] ["_law_instance_here", "_law_group"] (defScope sLr) := ⟨rfl, rfl, rfl, by decide +kernel, rfl, by decide +kernel, by decide +kernel⟩
abbrev sLw : Stmt := topS 47
theorem scLw : FnScope ["_law_instance_here", "_law_demand_here", "_law_found", "_law_group", "_law_posts", "_law_count", "_law_option"] ["_law_instance_here"] (defScope sLw) := ⟨rfl, rfl, rfl, by decide +kernel, rfl, by decide +kernel, by decide +kernel⟩
abbrev sLo : Stmt := topS 48
theorem scLo : FnScope ["_law_instance_here", "_law_demand_here", "_law_excess", "_law_many", "_law_capacity"] ["_law_instance_here"] (defScope sLo) := ⟨rfl, rfl, rfl, by decide +kernel, rfl, by decide +kernel, by decide +kernel⟩
section
variable {P : Program} {w : World} {K : PySem.W.Frag} {mg : Str → Option Value} {base : Heap}
set_option maxHeartbeats 2000000 in
theorem ok_Lr {f fLd : Addr} {fd fdLd : FuncData} (F : Fun K "_law_reserve" "_law_reserve" sLr f fd)
    (FLd : Fun K "_law_demand" "_law_demand" sLd fLd fdLd) (bLd : Binds K fdLd ["_law_instance_here"] []) (gLd : mg "_law_demand" = some (.ref fLd)) (GLd : FnOk P w K mg base CX0 1 fLd fdLd ["_law_instance_here"] (spLd K))
    (m_len : mg "len" = none) (m_range : mg "range" = none) :
    FnOk P w K mg base CX0 2 f fd ["_law_instance_here", "_law_group"] (spRes K) := by
  refine F.ok scLr (fun vs H Q E h => ?_) (fun cdv A outer s H vs Q E hr h => ?_)
  · obtain ⟨i, gi, cs, gs, g, rfl, _⟩ := h; rfl
  · obtain ⟨i, gi, cs, gs, g, rfl, hI, ok, hg, q⟩ := h
    have hu64 : (A.deeper (envOfC "_law_reserve" (defScope sLr) s.heap.objs.size f cdv)).units + 64 < cLine := by have := hr.un; omega
    have hu0 : (A.deeper (envOfC "_law_reserve" (defScope sLr) s.heap.objs.size f cdv)).units < cLine := by have := hr.un; omega
    refine ⟨_, pss_cons (ps_asg (pe_tup (pa_cons (pe_ix ix_tup (pe_ix ix_tup (pe_ix ix_tup (pv 0) (pe_int) (fun _ _ => rfl)) (pv 1) (fun _ _ => rfl)) (pe_int) (fun _ _ => rfl)) (pa_cons (pe_call GLd (hr.mono (by omega)) (by rfl) gLd FLd.kp bLd .nil pass0 (pa_cons (pv 0) pa_nil)) pa_nil))) (pg_tup rfl (pgs_cons (pg_name (i := 2) scLr.nd rfl (.inr rfl)) (pgs_cons (pg_name (i := 3) scLr.nd rfl (.inr rfl)) pgs_nil))))
      (pss_cons (ps_if (pt_cmpR (op_eqNilT hu0) (pv 2) (pe_tup (pa_nil)) (nomark _))
        (pss_one (ps_ret (pe_int))) pss_nil)
      (pss_one (ps_ret (pe_ix ix_list (pe_lc (own := [("_law_k", 4)]) (g := gName 4) (tt := tOr (tTest (tOp rEq (tVar 4) (tCB (rLenQ K) (tCons (tVar 2) tNil)))) (tTest (tOp (rI0 fun i j => .bl (decide (i < j))) (tOp (rIxL K) (tVar 3) (tOp (rIxT K) (tVar 2) (tVar 4))) (tOp (rIxT K) (tOp (rIxT K) (tVar 0) (tC (.int 0))) (tOp (rIxT K) (tVar 2) (tVar 4)))))) (te := tVar 4) rfl scLr.nd (pi_range2 (by rfl) m_range (pa_cons (pe_int) (pa_cons (pe_op op_add (pe_callB call_lenQ (by rfl) m_len PySem.boot_len (pa_cons (pv 2) pa_nil)) (pe_int)) pa_nil))) (blkOk_by (N := ["_law_instance_here", "_law_group", "_law_posts", "_law_demand_here", "_law_k"]) (sc := defScope sLr) (by decide +kernel)) (fun _ _ _ _ _ => pg_name (i := 4) scLr.nd rfl (.inl rfl)) (fun _ _ _ _ _ => pts_one (PW.pt (pw_or (pt_cmpR op_eq (pv 4) (pe_callB call_lenQ (by rfl) m_len PySem.boot_len (pa_cons (pv 2) pa_nil)) (nomark _)) (pw_or1 (pt_cmpR op_lt (pe_ix ix_list (pv 3) (pe_ix ix_tup (pv 2) (pv 4) (fun _ _ => rfl)) (fun _ _ => rfl)) (pe_ix ix_tup (pe_ix ix_tup (pv 0) (pe_int) (fun _ _ => rfl)) (pe_ix ix_tup (pv 2) (pv 4) (fun _ _ => rfl)) (fun _ _ => rfl)) (nomark _)))))) (fun _ _ _ _ _ => pv 4)) (pe_int) (fun _ _ => rfl))))), ?_⟩
    obtain ⟨_, ca, ga, xs, e, hi, hc, hgt, hgs⟩ := inst_open hI
    cases e
    obtain ⟨gA, pA, hx, hG, hP⟩ := grp_at hgs hg
    have hgl := (ok.gp g (List.mem_of_getElem? hg)).1
    have hgp := (ok.gp g (List.mem_of_getElem? hg)).2.1
    have h6 := ok.c6
    refine ⟨.ref i, rfl, i, _, 1, .ref ga, rfl, rfl, hi, atI_nat (j := 1) rfl, .int gi, rfl, ga, _, _, _, rfl, rfl, hgt, atI_nat hx, gA, _, 0, .ref pA, rfl, rfl, hG, atI_nat (j := 0) rfl, ?_⟩
    refine ⟨.ref i, rfl, i, cs, gs, rfl, hI, ok, fun H1 Dm s1 eD _ => ⟨(show (2 : Nat) ≤ sizeLine by decide), fun T nT => ⟨T, _, rfl, SqT.of upd_same, rfl, _, _, rfl, _, _, rfl, rfl, ?_⟩⟩⟩
    have s2 := s1.trans (sameNew (o := .tup [.ref pA, .ref Dm]) nT)
    have eD2 := sameNew (o := .tup [.ref pA, .ref Dm]) nT _ _ eD
    generalize upd H1 T (.tup [.ref pA, .ref Dm]) = H2 at s2 eD2
    refine ⟨.ref pA, rfl, Nat.zero_le _, fun Em nEm => ⟨pA, Em, _, rfl, rfl, sqS (s2.trans (sameNew nEm)) hP, SqT.of upd_same, _, rfl, ?_⟩⟩
    have s3 := s2.trans (sameNew (o := .tup []) nEm)
    have eD3 := sameNew (o := .tup []) nEm _ _ eD2
    generalize upd H2 Em (.tup []) = H3 at s3 eD3
    by_cases hne : g.1 = []
    · have hr : resOf g.1 (rCla cs gs) = 0 := by rw [hne]; rfl
      rw [hne]
      refine iteT ?_
      have := q _ s3
      rw [hr] at this
      exact this
    have hl1 : 1 ≤ g.1.length := by cases hgg : g.1 with
      | nil => exact absurd hgg hne
      | cons a b => simp
    refine iteFF (by rw [List.isEmpty_eq_false_iff]; simpa using hne) ?_
    have hP3 := sqS s3 hP
    have hdl := rDem_len cs gs
    refine ⟨.ref pA, rfl, pA, _, rfl, .inr hP3, _, _, rfl, rfl, 1, _, rfl, ⟨by omega, by omega, by omega, by rw [List.length_map]; omega⟩, fun D nD => lc_it (walk_range (lo := 1) (n := ((((List.map V.int g.1).length : Int) + 1) - 1).toNat))
      (LcP H3 D (List.range' 1 g.1.length) (fun k => if (k == g.1.length || isFree g.1 (rCla cs gs) k) = true then some (.int (k : Nat)) else none)) (.start nD) (fun _ _ _ _ => trivial) ?_ ?_⟩
    · rintro j v H4 H5 hlt hL ⟨rfl, rfl⟩
      rw [List.length_map] at hlt
      have hj : j < g.1.length := by omega
      have e1 : (1 : Int) + (j : Nat) = ((1 + j : Nat) : Int) := by omega
      have hz : (List.range' 1 g.1.length)[j]? = some (1 + j) := by rw [List.getElem?_range' hj]; simp
      have s5 := s3.trans hL.1
      have hP5 := sqS s5 hP
      have eD5 := hL.1 _ _ eD3
      dsimp only
      rw [e1]
      refine ⟨rfl, .int ((1 + j : Nat) : Int), rfl, .ref pA, rfl, pA, _, rfl, .inr hP5, rfl, _, rfl, ite2 (fun h1 => ?_) (fun h1 => ?_)⟩
      · have h1 : 1 + j = g.1.length := by simp at h1; omega
        exact ⟨_, rfl, hL.yes nD (Same.refl _) hz (by rw [h1]; simp) (by omega)⟩
      have h1 : ¬ (1 + j = g.1.length) := by simp at h1; omega
      have hk : 1 + j < g.1.length := by omega
      have hpr := hgp g.1[1 + j] (List.getElem_mem hk)
      obtain ⟨pn, hpn⟩ : ∃ pn : Nat, g.1[1 + j] = pn := ⟨g.1[1 + j].toNat, by omega⟩
      have hpl : pn < cs.length := by omega
      have hpv : (g.1.map V.int)[1 + j]? = some (.int (pn : Nat)) := by rw [atS hk, hpn]
      refine ⟨.ref Dm, rfl, .ref pA, rfl, .int ((1 + j : Nat) : Int), rfl, pA, _, _, .int pn, rfl, rfl, hP5, atI_nat hpv, Dm, _, _, .int (rDem cs gs)[pn], rfl, rfl, SqL.of eD5, atI_nat (atS (by omega)), .ref i, rfl, i, _, 0, .ref ca, rfl, rfl, sqS s5 hi, atI_nat (j := 0) rfl, .ref pA, rfl, .int ((1 + j : Nat) : Int), rfl, pA, _, _, .int pn, rfl, rfl, hP5, atI_nat hpv, ca, _, _, .int cs[pn], rfl, rfl, sqS s5 hc, atI_nat (atS hpl), _, _, rfl, rfl, _, rfl, ?_⟩
      have hfr : isFree g.1 (rCla cs gs) (1 + j) = decide ((rDem cs gs)[pn] < cs[pn]) := by
        unfold isFree
        rw [List.getD_eq_getElem?_getD, List.getElem?_eq_getElem hk, Option.getD_some, hpn, cla_has hpl]
        by_cases h : cs[pn] ≤ (rDem cs gs)[pn] <;> simp [h] <;> omega
      refine ite2 (fun h2 => ?_) (fun h2 => ?_)
      · exact ⟨_, rfl, hL.yes nD (Same.refl _) hz (by rw [hfr, h2]; simp) (by omega)⟩
      · exact hL.no (Same.refl _) hz (by rw [hfr]; simp [h1]; simpa using h2)
    rintro H4 hL
    have e4 := hL.done (by rw [List.length_range', List.length_map]; omega)
    refine ⟨D, _, 0, .int (resOf g.1 (rCla cs gs)), rfl, rfl, SqL.of e4, atI_nat (j := 0) (res_head hl1 (fun k h1 h2 => ?_) (by simp)), q _ (s3.trans hL.1)⟩
    have : (k == g.1.length) = false := by simp; omega
    rw [this]; rfl
def spLw (K : PySem.W.Frag) : Sp := fun vs H Q _ => ∃ (i : Addr) (cs : List Int) (gs : List Gp), vs = [.ref i] ∧ Dp K H (.ref i) (dInst cs gs) ∧ InsOk cs gs ∧
  ∀ H' p vs, Same H H' → H' p = some (.lst vs) → Rl (RwV K H') vs (rowsTo cs gs gs.length) → H p = none → Q (.ref p) H'
set_option maxHeartbeats 2000000 in
theorem ok_Lw {f fLd fLr : Addr} {fd fdLd fdLr : FuncData} (F : Fun K "_law_rows" "_law_rows" sLw f fd)
    (FLd : Fun K "_law_demand" "_law_demand" sLd fLd fdLd) (bLd : Binds K fdLd ["_law_instance_here"] []) (gLd : mg "_law_demand" = some (.ref fLd)) (GLd : FnOk P w K mg base CX0 1 fLd fdLd ["_law_instance_here"] (spLd K))
    (FLr : Fun K "_law_reserve" "_law_reserve" sLr fLr fdLr) (bLr : Binds K fdLr ["_law_instance_here", "_law_group"] []) (gLr : mg "_law_reserve" = some (.ref fLr)) (GLr : FnOk P w K mg base CX0 2 fLr fdLr ["_law_instance_here", "_law_group"] (spRes K))
    (m_enumerate : mg "enumerate" = none) :
    FnOk P w K mg base CX0 3 f fd ["_law_instance_here"] (spLw K) := by
  refine F.ok scLw (fun vs H Q E h => ?_) (fun cdv A outer s H vs Q E hr h => ?_)
  · obtain ⟨i, cs, gs, rfl, _⟩ := h; rfl
  · obtain ⟨i, cs, gs, rfl, hI, ok, q⟩ := h
    have hu64 : (A.deeper (envOfC "_law_rows" (defScope sLw) s.heap.objs.size f cdv)).units + 64 < cLine := by have := hr.un; omega
    have hu0 : (A.deeper (envOfC "_law_rows" (defScope sLw) s.heap.objs.size f cdv)).units < cLine := by have := hr.un; omega
    refine ⟨_, pss_cons (ps_par (i := 1) (j := 2) rfl scLw.nd rfl rfl (by decide) rfl rfl (pa_cons (pe_call GLd (hr.mono (by omega)) (by rfl) gLd FLd.kp bLd .nil pass0 (pa_cons (pv 0) pa_nil)) (pa_cons (pe_lst (pa_nil)) pa_nil)) rfl)
      (pss_cons (ps_for PassesOwn.never rfl (pi_enumT (by rfl) m_enumerate (pa_cons (pe_ix ix_tup (pv 0) (pe_int) (fun _ _ => rfl)) pa_nil)) (pg_tup rfl (pgs_cons (pg_name (i := 3) scLw.nd rfl (.inl rfl)) (pgs_cons (pg_tup rfl (pgs_cons (pg_name (i := 4) scLw.nd rfl (.inl rfl)) (pgs_cons (pg_name (i := 5) scLw.nd rfl (.inl rfl)) pgs_nil))) pgs_nil)))
        (pss_one (ps_if (PW.pt (pw_and (pt_cmpR (op_neNilT hu0) (pv 4) (pe_tup (pa_nil)) (nomark _)) (pw_and1 (pt_cmpR op_gt (pe_ix ix_list (pv 1) (pe_ix ix_tup (pv 4) (pe_int) (fun _ _ => rfl)) (fun _ _ => rfl)) (pe_ix ix_tup (pe_ix ix_tup (pv 0) (pe_int) (fun _ _ => rfl)) (pe_ix ix_tup (pv 4) (pe_int) (fun _ _ => rfl)) (fun _ _ => rfl)) (nomark _)))))
          (pss_cons (ps_set (i := 6) scLw.nd rfl (.inl rfl) (pe_call GLr (hr.mono (by omega)) (by rfl) gLr FLr.kp bLr .nil pass0 (pa_cons (pv 0) (pa_cons (pv 3) pa_nil))))
          (pss_one (ps_expr (pe_bm PySem.F.plainAttrs_list PySem.F.slot_list_append PySem.F.type_list_append mt_append (pv 2) (pa_cons (pe_tup (pa_cons (pv 3) (pa_cons (pe_ix ix_tup (pv 4) (pe_int) (fun _ _ => rfl)) (pa_cons (pe_ix ix_tup (pe_op op_catA (pv 4) (pe_tup (pa_cons (pe_non) pa_nil))) (pv 6) (fun _ _ => rfl)) (pa_cons (pv 5) pa_nil))))) pa_nil))))) pss_nil)))
      (pss_one (ps_ret (pv 2)))), ?_⟩
    obtain ⟨_, ca, ga, xs, e, hi, hc, hgt, hgs⟩ := inst_open hI
    cases e
    have lx := DpAll.len hgs
    rw [List.length_map] at lx
    have h6 := ok.c6
    have h10 := ok.g10
    refine ⟨.ref i, rfl, i, cs, gs, rfl, hI, ok, fun H1 Dm s1 eD nD0 => ⟨Nat.zero_le _, fun Fo nFo => ⟨_, _, rfl, ?_⟩⟩⟩
    have fFo : H Fo = none := by
      cases e : H Fo with
      | none => rfl
      | some o => have := s1 _ _ e; rw [nFo] at this; cases this
    have nDF : Dm ≠ Fo := ne_of_none eD nFo
    have s2 := s1.trans (sameNew (o := .lst []) nFo)
    refine ⟨.ref i, rfl, i, _, 1, .ref ga, rfl, rfl, sqS s2 hi, atI_nat (j := 1) rfl, ga, _, rfl, sqS s2 hgt, for_it (walk_enumT (K := K) (a := ga) (xs := xs))
      (fun j σ H3 => ∃ (y3 y4 y5 y6 : Option V) (vs : List V), σ = [some (.ref i), some (.ref Dm), some (.ref Fo), y3, y4, y5, y6] ∧ Same H1 H3 ∧ H3 Fo = some (.lst vs) ∧ Rl (RwV K H3) vs (rowsTo cs gs j))
      ⟨none, none, none, none, [], rfl, sameNew nFo, upd_same, Rl.nil⟩ (fun j σ H3 _ h => by obtain ⟨_, _, _, _, _, _, s3, _⟩ := h; exact sqS (s1.trans s3) hgt) ?_ ?_⟩
    · rintro j v σ H3 H4 hlt ⟨y3, y4, y5, y6, vs, rfl, s3, e3, hv3⟩ ⟨T, x, y, rfl, nT, rfl, ex, ey⟩
      have hj : j < gs.length := by omega
      have hg : gs[j]? = some gs[j] := List.getElem?_eq_getElem hj
      obtain ⟨gA, pA, hx, hG, hP⟩ := grp_at hgs hg
      cases ex
      have ey : xs[j]? = some y := ey
      rw [hx] at ey
      cases ey
      have hgp := (ok.gp gs[j] (List.getElem_mem hj)).2.1
      have hgl := (ok.gp gs[j] (List.getElem_mem hj)).1
      have hlv : vs.length ≤ j := by rw [hv3.1]; exact rowsTo_len ..
      have sT := sameNew (o := .tup [.int (j : Nat), .ref gA]) nT
      refine ⟨T, _, rfl, SqT.of upd_same, rfl, _, _, rfl, _, _, rfl, gA, _, rfl, sqS (s1.trans (s3.trans sT)) hG, rfl, _, _, rfl, _, _, rfl, rfl, rfl, ?_⟩
      generalize hH4 : upd H3 T (.tup [.int (j : Nat), .ref gA]) = H4 at sT
      refine ⟨.ref pA, rfl, Nat.zero_le _, fun Em nEm => ⟨pA, Em, _, rfl, rfl, sqS (s1.trans ((s3.trans sT).trans (sameNew nEm))) hP, SqT.of upd_same, _, rfl, ?_⟩⟩
      have sE := sT.trans (sameNew (o := .tup []) nEm)
      generalize upd H4 Em (.tup []) = H5 at sE
      have s5 := s3.trans sE
      have s05 := s1.trans s5
      have e5 := sE _ _ e3
      have hv5 : Rl (RwV K H5) vs (rowsTo cs gs j) := hv3.mono fun v r h => h.same sE
      have rsn : rowsTo cs gs (j + 1) = rowsTo cs gs j ++ (rowAt cs gs j gs[j]).toList := rowsTo_succ hg
      by_cases hne : gs[j].1 = []
      · rw [hne]
        refine iteF (iteF ?_)
        refine ⟨_, _, _, _, vs, rfl, s5, e5, ?_⟩
        rw [rsn, show rowAt cs gs j gs[j] = none by unfold rowAt routeOf; rw [hne]; rfl]
        simpa using hv5
      obtain ⟨pp, ps, hps⟩ : ∃ pp ps, gs[j].1 = pp :: ps := by
        cases hgg : gs[j].1 with
        | nil => exact absurd hgg hne
        | cons a b => exact ⟨a, b, rfl⟩
      refine iteTT (by rw [hps]; rfl) ?_
      have hpr := hgp pp (by rw [hps]; simp)
      obtain ⟨pn, rfl⟩ : ∃ pn : Nat, pp = pn := ⟨pp.toNat, by omega⟩
      have hpl : pn < cs.length := by omega
      have hdl : pn < (rDem cs gs).length := by rw [rDem_len]; exact hpl
      have h0 : (gs[j].1.map V.int)[0]? = some (.int (pn : Nat)) := by rw [hps]; rfl
      have hP5 := sqS s05 hP
      refine ⟨.ref Dm, rfl, .ref pA, rfl, pA, _, 0, .int pn, rfl, rfl, hP5, atI_nat (j := 0) h0, Dm, _, _, .int (rDem cs gs)[pn], rfl, rfl, SqL.of (s5 _ _ eD), atI_nat (atS hdl), .ref i, rfl, i, _, 0, .ref ca, rfl, rfl, sqS s05 hi, atI_nat (j := 0) rfl, .ref pA, rfl, pA, _, 0, .int pn, rfl, rfl, hP5, atI_nat (j := 0) h0, ca, _, _, .int cs[pn], rfl, rfl, sqS s05 hc, atI_nat (atS hpl), _, _, rfl, rfl, _, rfl, ?_⟩
      have hro : routeOf cs gs gs[j] = if cs[pn] < (rDem cs gs)[pn] then some ((pn : Int), gs[j].1[resOf gs[j].1 (rCla cs gs)]?) else none := by
        unfold routeOf
        rw [hps]
        simp only
        rw [cro_has hpl]
        by_cases h : cs[pn] < (rDem cs gs)[pn] <;> simp [h]
      refine ite2 (fun h1 => ?_) (fun h1 => ?_)
      · have h1 : cs[pn] < (rDem cs gs)[pn] := by simpa using h1
        rw [if_pos h1] at hro
        have hra : rowAt cs gs j gs[j] = some (j, (pn : Int), gs[j].1[resOf gs[j].1 (rCla cs gs)]?, gs[j].2) := by unfold rowAt; rw [hro]; rfl
        refine ⟨.ref i, rfl, .int (j : Nat), rfl, i, j, cs, gs, gs[j], rfl, (TupK.of s05).dp _ _ (to_dInst _ _) hI, ok, hg, fun H6 s6 => ?_⟩
        have s06 := s05.trans s6
        have hrl := resOf_le gs[j].1 (rCla cs gs)
        refine ⟨.ref Fo, rfl, .inl ⟨rfl, _, SqL.of (s6 _ _ e5)⟩, .int (j : Nat), rfl, .ref pA, rfl, pA, _, 0, .int pn, rfl, rfl, sqS s06 hP, atI_nat (j := 0) h0, .ref pA, rfl, (show (1 : Nat) ≤ sizeLine by decide), fun N nN => ?_⟩
        have sN := sameNew (o := .tup [.non]) nN
        refine ⟨pA, N, _, _, rfl, rfl, sqS (s06.trans sN) hP, SqT.of upd_same, by rw [List.length_map]; have := small (n := gs[j].1.length + 1) (by omega); exact Nat.le_of_lt this, fun h => absurd h (by rw [hps]; simp), fun _ h => absurd h (by simp), fun _ _ C nC => ?_⟩
        have hcv : (gs[j].1.map V.int ++ [.non])[resOf gs[j].1 (rCla cs gs)]? = some (oV gs[j].1[resOf gs[j].1 (rCla cs gs)]?) := by
          by_cases hlt : resOf gs[j].1 (rCla cs gs) < gs[j].1.length
          · rw [List.getElem?_append_left (by rw [List.length_map]; exact hlt), atS hlt, List.getElem?_eq_getElem hlt]; rfl
          · have he : resOf gs[j].1 (rCla cs gs) = gs[j].1.length := by omega
            rw [he, List.getElem?_append_right (by rw [List.length_map]; omega), List.length_map, List.getElem?_eq_none (Nat.le_refl _), Nat.sub_self]; rfl
        have sC := sameNew (o := .tup (gs[j].1.map V.int ++ [.non])) nC
        refine ⟨.int ((resOf gs[j].1 (rCla cs gs) : Nat) : Int), rfl, C, _, _, _, rfl, rfl, SqT.of upd_same, atI_nat hcv, .int gs[j].2, rfl, (show (4 : Nat) ≤ sizeLine by decide), fun T2 nT2 => ?_⟩
        have sT2 := sameNew (o := .tup [.int (j : Nat), .int pn, oV gs[j].1[resOf gs[j].1 (rCla cs gs)]?, .int gs[j].2]) nT2
        have s9 := (s6.trans (sN.trans sC)).trans sT2
        have e9 := s9 _ _ e5
        have hT2 : SqT K _ T2 [.int (j : Nat), .int pn, oV gs[j].1[resOf gs[j].1 (rCla cs gs)]?, .int gs[j].2] := SqT.of (upd_same (H := upd (upd H6 N (.tup [.non])) C (.tup (gs[j].1.map V.int ++ [.non]))))
        generalize upd (upd (upd H6 N (.tup [.non])) C (.tup (gs[j].1.map V.int ++ [.non]))) T2 (.tup [.int (j : Nat), .int pn, oV gs[j].1[resOf gs[j].1 (rCla cs gs)]?, .int gs[j].2]) = H9 at s9 e9 hT2
        have tkp : TupK H9 (upd H9 Fo (.lst (vs ++ [.ref T2]))) := TupK.put e9
        refine ⟨Fo, vs, _, rfl, rfl, e9, small (by omega), _, _, _, _, vs ++ [.ref T2], rfl, samePut (s5.trans s9) nFo, upd_same, ?_⟩
        rw [rsn, hra]
        exact Rl.snoc (hv5.mono fun v r h => (h.same s9).tk tkp) ⟨T2, rfl, tkp.sq hT2⟩
      · have h1 : ¬ cs[pn] < (rDem cs gs)[pn] := by simpa using h1
        rw [if_neg h1] at hro
        refine ⟨_, _, _, _, vs, rfl, s5, e5, ?_⟩
        rw [rsn, show rowAt cs gs j gs[j] = none by unfold rowAt; rw [hro]; rfl]
        simpa using hv5
    rintro σ H3 ⟨y3, y4, y5, y6, vs, rfl, s3, e3, hv3⟩
    rw [lx] at hv3
    exact ⟨_, rfl, q _ Fo vs (s1.trans s3) e3 hv3 fFo⟩
def spLo (K : PySem.W.Frag) : Sp := fun vs H Q _ => ∃ (i : Addr) (cs : List Int) (gs : List Gp), vs = [.ref i] ∧ Dp K H (.ref i) (dInst cs gs) ∧ InsOk cs gs ∧
  ∀ H' T E F, Same H H' → SqT K H' T [.ref E, .ref F] → H' E = some (.lst ((rExc cs gs).map V.int)) → H' F = some (.lst ((rFre cs gs).map V.int)) → H E = none → H F = none → E ≠ F → Q (.ref T) H'
set_option maxHeartbeats 2000000 in
theorem ok_Lo {f fLd : Addr} {fd fdLd : FuncData} (F : Fun K "_law_room" "_law_room" sLo f fd)
    (FLd : Fun K "_law_demand" "_law_demand" sLd fLd fdLd) (bLd : Binds K fdLd ["_law_instance_here"] []) (gLd : mg "_law_demand" = some (.ref fLd)) (GLd : FnOk P w K mg base CX0 1 fLd fdLd ["_law_instance_here"] (spLd K))
    (m_zip : mg "zip" = none) (m_max : mg "max" = none) :
    FnOk P w K mg base CX0 2 f fd ["_law_instance_here"] (spLo K) := by
  refine F.ok scLo (fun vs H Q E h => ?_) (fun cdv A outer s H vs Q E hr h => ?_)
  · obtain ⟨i, cs, gs, rfl, _⟩ := h; rfl
  · obtain ⟨i, cs, gs, rfl, hI, ok, q⟩ := h
    refine ⟨_, pss_cons (ps_set (i := 1) scLo.nd rfl (.inl rfl) (pe_call GLd (hr.mono (by omega)) (by rfl) gLd FLd.kp bLd .nil pass0 (pa_cons (pv 0) pa_nil)))
      (pss_cons (ps_setLc (i := 2) (own := [("_law_many", 3), ("_law_capacity", 4)]) (g := gTup K 2 (gCons (gName 3) (gCons (gName 4) gNil))) (tt := tYes) (te := tCB (fun xs H Q => ∃ i j, xs = [.int i, .int j] ∧ Q (.int (if j > i then j else i)) H) (tCons (tC (.int 0)) (tCons (tOp (rI0 fun i j => .int (i - j)) (tVar 3) (tVar 4)) tNil))) rfl scLo.nd rfl rfl (sw_true rfl rfl rfl (by decide +kernel)) (pi_zipM (by rfl) m_zip (pa_cons (pv 1) (pa_cons (pe_ix ix_tup (pv 0) (pe_int) (fun _ _ => rfl)) pa_nil))) (blkOk_by (N := ["_law_instance_here", "_law_demand_here", "_law_excess", "_law_many", "_law_capacity"]) (sc := defScope sLo) (by decide +kernel)) (fun _ _ _ _ _ => pg_tup rfl (pgs_cons (pg_name (i := 3) scLo.nd rfl (.inl rfl)) (pgs_cons (pg_name (i := 4) scLo.nd rfl (.inl rfl)) pgs_nil))) (fun _ _ _ _ _ => pts_nil) (fun _ _ _ _ _ => pe_callB (call_max2 rfl) (by rfl) m_max (by decide +kernel) (pa_cons (pe_int) (pa_cons (pe_op op_sub (pv 3) (pv 4)) pa_nil))))
      (pss_one (ps_ret (pe_tup (pa_cons (pv 2) (pa_cons (pe_lc (own := [("_law_many", 3), ("_law_capacity", 4)]) (g := gTup K 2 (gCons (gName 3) (gCons (gName 4) gNil))) (tt := tYes) (te := tCB (fun xs H Q => ∃ i j, xs = [.int i, .int j] ∧ Q (.int (if j > i then j else i)) H) (tCons (tC (.int 0)) (tCons (tOp (rI0 fun i j => .int (i - j)) (tVar 4) (tVar 3)) tNil))) rfl scLo.nd (pi_zipM (by rfl) m_zip (pa_cons (pv 1) (pa_cons (pe_ix ix_tup (pv 0) (pe_int) (fun _ _ => rfl)) pa_nil))) (blkOk_by (N := ["_law_instance_here", "_law_demand_here", "_law_excess", "_law_many", "_law_capacity"]) (sc := defScope sLo) (by decide +kernel)) (fun _ _ _ _ _ => pg_tup rfl (pgs_cons (pg_name (i := 3) scLo.nd rfl (.inl rfl)) (pgs_cons (pg_name (i := 4) scLo.nd rfl (.inl rfl)) pgs_nil))) (fun _ _ _ _ _ => pts_nil) (fun _ _ _ _ _ => pe_callB (call_max2 rfl) (by rfl) m_max (by decide +kernel) (pa_cons (pe_int) (pa_cons (pe_op op_sub (pv 4) (pv 3)) pa_nil)))) pa_nil)))))), ?_⟩
    obtain ⟨_, ca, ga, xs, e, hi, hc, hgt, hgs⟩ := inst_open hI
    cases e
    have h6 := ok.c6
    have hdl := rDem_len cs gs
    refine ⟨.ref i, rfl, i, cs, gs, rfl, hI, ok, fun H1 Dm s1 eD nD0 => ?_⟩
    refine ⟨.ref Dm, rfl, .ref i, rfl, i, _, 0, .ref ca, rfl, rfl, sqS s1 hi, atI_nat (j := 0) rfl, Dm, ca, _, _, rfl, SqL.of eD, sqS s1 hc, fun D nD => lc_it (walk_zipM (K := K) (a := Dm) (b := ca) (xs := (rDem cs gs).map V.int) (ys := cs.map V.int) rfl)
      (LcP H1 D ((rDem cs gs).zip cs) (fun z => some (.int (mx (z.1 - z.2))))) (.start nD) (fun j H2 _ h => ⟨SqL.of (h.1 _ _ eD), sqS (s1.trans h.1) hc⟩) ?_ ?_⟩
    · rintro j v H2 H3 hlt hL ⟨T, x, y, rfl, nT, rfl, ex, ey⟩
      rw [List.length_map, List.length_map] at hlt
      have hj1 : j < (rDem cs gs).length := by omega
      have hj2 : j < cs.length := by omega
      have ex : ((rDem cs gs).map V.int)[j]? = some x := ex
      have ey : (cs.map V.int)[j]? = some y := ey
      rw [atS hj1] at ex
      rw [atS hj2] at ey
      cases ex
      cases ey
      have hz : ((rDem cs gs).zip cs)[j]? = some ((rDem cs gs)[j], cs[j]) := by rw [List.getElem?_zip_eq_some]; exact ⟨List.getElem?_eq_getElem hj1, List.getElem?_eq_getElem hj2⟩
      refine ⟨T, _, rfl, SqT.of upd_same, rfl, _, _, rfl, _, _, rfl, rfl, rfl, .int (rDem cs gs)[j], rfl, .int cs[j], rfl, _, _, rfl, rfl, _, _, rfl, hL.yes nD (sameNew nT) hz rfl (by omega)⟩
    rintro H2 hL
    have e2 := hL.done (by rw [List.length_zip, List.length_map, List.length_map]; exact Nat.le_refl _)
    rw [fm_map, exc_zip] at e2
    have s2 := s1.trans hL.1
    refine ⟨_, rfl, .ref Dm, rfl, .ref i, rfl, i, _, 0, .ref ca, rfl, rfl, sqS s2 hi, atI_nat (j := 0) rfl, Dm, ca, _, _, rfl, SqL.of (hL.1 _ _ eD), sqS s2 hc, fun D2 nD2 => lc_it (walk_zipM (K := K) (a := Dm) (b := ca) (xs := (rDem cs gs).map V.int) (ys := cs.map V.int) rfl)
      (LcP H2 D2 ((rDem cs gs).zip cs) (fun z => some (.int (mx (z.2 - z.1))))) (.start nD2) (fun j H3 _ h => ⟨SqL.of (h.1 _ _ (hL.1 _ _ eD)), sqS (s2.trans h.1) hc⟩) ?_ ?_⟩
    · rintro j v H3 H4 hlt hM ⟨T, x, y, rfl, nT, rfl, ex, ey⟩
      rw [List.length_map, List.length_map] at hlt
      have hj1 : j < (rDem cs gs).length := by omega
      have hj2 : j < cs.length := by omega
      have ex : ((rDem cs gs).map V.int)[j]? = some x := ex
      have ey : (cs.map V.int)[j]? = some y := ey
      rw [atS hj1] at ex
      rw [atS hj2] at ey
      cases ex
      cases ey
      have hz : ((rDem cs gs).zip cs)[j]? = some ((rDem cs gs)[j], cs[j]) := by rw [List.getElem?_zip_eq_some]; exact ⟨List.getElem?_eq_getElem hj1, List.getElem?_eq_getElem hj2⟩
      refine ⟨T, _, rfl, SqT.of upd_same, rfl, _, _, rfl, _, _, rfl, rfl, rfl, .int cs[j], rfl, .int (rDem cs gs)[j], rfl, _, _, rfl, rfl, _, _, rfl, hM.yes nD2 (sameNew nT) hz rfl (by omega)⟩
    rintro H3 hM
    have e3 := hM.done (by rw [List.length_zip, List.length_map, List.length_map]; exact Nat.le_refl _)
    rw [fm_map, fre_zip] at e3
    have eE3 := hM.1 _ _ e2
    refine ⟨(show (2 : Nat) ≤ sizeLine by decide), fun T nT => ?_⟩
    have sT := sameNew (o := .tup [.ref D, .ref D2]) nT
    have fr : ∀ {p : Addr}, H1 p = none → H p = none := fun {p} np => by
      cases e : H p with
      | none => rfl
      | some o => have := s1 _ _ e; rw [np] at this; cases this
    have fr2 : H1 D2 = none := by
      cases e : H1 D2 with
      | none => rfl
      | some o => have := hL.1 _ _ e; rw [nD2] at this; cases this
    exact q _ T D D2 ((s2.trans hM.1).trans sT) (SqT.of upd_same) (sT _ _ eE3) (sT _ _ e3) (fr nD) (fr fr2) (ne_of_none e2 nD2)
end
end Pv

namespace Pv
open PySem PySem.Spec PyProof.Rows L2
abbrev sLv : Stmt := topS 49
theorem scLv : FnScope ["_law_instance_here", "_law_value", "_law_groups", "_law_number", "_law_group", "_law_excess", "_law_free", "_law_rows_here", "_law_first", "_law_second", "_law_count", "_law_others", "_law_k", "_law_many", "_law_row"] ["_law_instance_here", "_law_value"] (defScope sLv) := ⟨rfl, rfl, rfl, by decide +kernel, rfl, by decide +kernel, by decide +kernel⟩
section
variable {P : Program} {w : World} {K : PySem.W.Frag} {mg : Str → Option Value} {base : Heap}
set_option maxHeartbeats 4000000 in
theorem ok_Lv {f fLo fLw : Addr} {fd fdLo fdLw : FuncData} (F : Fun K "_law_is_vector" "_law_is_vector" sLv f fd)
    (FLo : Fun K "_law_room" "_law_room" sLo fLo fdLo) (bLo : Binds K fdLo ["_law_instance_here"] []) (gLo : mg "_law_room" = some (.ref fLo)) (GLo : FnOk P w K mg base CX0 2 fLo fdLo ["_law_instance_here"] (spLo K))
    (FLw : Fun K "_law_rows" "_law_rows" sLw fLw fdLw) (bLw : Binds K fdLw ["_law_instance_here"] []) (gLw : mg "_law_rows" = some (.ref fLw)) (GLw : FnOk P w K mg base CX0 3 fLw fdLw ["_law_instance_here"] (spLw K))
    (m_tuple : mg "tuple" = none) (m_isinstance : mg "isinstance" = none) (m_len : mg "len" = none) (m_zip : mg "zip" = none) (m_bool : mg "bool" = none) (m_int : mg "int" = none) (m_range : mg "range" = none) :
    FnOk P w K mg base CX0 4 f fd ["_law_instance_here", "_law_value"] (spIv K) := by
  refine F.ok scLv (fun vs H Q E h => ?_) (fun cdv A outer s H vs Q E hr h => ?_)
  · obtain ⟨st, r, i, v, cs, gs, d, rfl, _⟩ := h; rfl
  · obtain ⟨st, r, i, v, cs, gs, d, rfl, hI, ok, hv, q⟩ := h
    have hu64 : (A.deeper (envOfC "_law_is_vector" (defScope sLv) s.heap.objs.size f cdv)).units + 64 < cLine := by have := hr.un; omega
    refine ⟨_, pss_cons (ps_set (i := 2) scLv.nd rfl (.inl rfl) (pe_ix ix_tup (pv 0) (pe_int) (fun _ _ => rfl)))
      (pss_cons (ps_if (PW.pt (pw_or (pt_not (pt_val (pe_callB call_isi (by rfl) m_isinstance (by decide +kernel) (pa_cons (pv 1) (pa_cons (pe_bltn (v := .ty "tuple") (by rfl) m_tuple (by decide +kernel) rfl) pa_nil))))) (pw_or1 (pt_cmpR op_ne (pe_callB call_lenQ (by rfl) m_len PySem.boot_len (pa_cons (pv 1) pa_nil)) (pe_callB call_lenQ (by rfl) m_len PySem.boot_len (pa_cons (pv 2) pa_nil)) (nomark _)))))
        (pss_one (ps_ret (pe_bl))) pss_nil)
      (pss_cons (ps_for PassesOwn.never rfl (RZ.pi_zipA (by rfl) m_zip (pa_cons (pv 1) (pa_cons (pv 2) pa_nil))) (pg_tup rfl (pgs_cons (pg_name (i := 3) scLv.nd rfl (.inl rfl)) (pgs_cons (pg_name (i := 4) scLv.nd rfl (.inl rfl)) pgs_nil)))
        (pss_one (ps_if (PW.pt (pw_or (pt_val (pe_callB call_isi (by rfl) m_isinstance (by decide +kernel) (pa_cons (pv 3) (pa_cons (pe_bltn (v := .ty "bool") (by rfl) m_bool (by decide +kernel) rfl) pa_nil)))) (pw_or (pt_not (pt_val (pe_callB call_isi (by rfl) m_isinstance (by decide +kernel) (pa_cons (pv 3) (pa_cons (pe_bltn (v := .ty "int") (by rfl) m_int (by decide +kernel) rfl) pa_nil))))) (pw_or1 (pt_not (pt_chain op_le op_le (pe_int) (pv 3) (pe_ix ix_tup (pv 4) (pe_int) (fun _ _ => rfl))))))))
          (pss_one (ps_ret (pe_bl))) pss_nil)))
      (pss_cons (ps_asg (pe_call GLo (hr.mono (by omega)) (by rfl) gLo FLo.kp bLo .nil pass0 (pa_cons (pv 0) pa_nil)) (pg_tup rfl (pgs_cons (pg_name (i := 5) scLv.nd rfl (.inl rfl)) (pgs_cons (pg_name (i := 6) scLv.nd rfl (.inl rfl)) pgs_nil))))
      (pss_cons (ps_set (i := 7) scLv.nd rfl (.inr rfl) (pe_call GLw (hr.mono (by omega)) (by rfl) gLw FLw.kp bLw .nil pass0 (pa_cons (pv 0) pa_nil)))
      (pss_cons (ps_for PassesOwn.never rfl (pi_list (pv 7)) (pg_tup rfl (pgs_cons (pg_name (i := 4) scLv.nd rfl (.inl rfl)) (pgs_cons (pg_name (i := 8) scLv.nd rfl (.inl rfl)) (pgs_cons (pg_name (i := 9) scLv.nd rfl (.inl rfl)) (pgs_cons (pg_name (i := 10) scLv.nd rfl (.inl rfl)) pgs_nil)))))
        (pss_cons (ps_asg (pe_op op_sub (pe_ix ix_list (pv 5) (pv 8) (fun _ _ => rfl)) (pe_ix ix_tup (pv 1) (pv 4) (fun _ _ => rfl))) (pg_sub (pv 5) (pv 8) set_list))
        (pss_one (ps_if (pt_cmp (pc_notN (pv 9)))
          (pss_one (ps_asg (pe_op op_sub (pe_ix ix_list (pv 6) (pv 9) (fun _ _ => rfl)) (pe_ix ix_tup (pv 1) (pv 4) (fun _ _ => rfl))) (pg_sub (pv 6) (pv 9) set_list))) pss_nil))))
      (pss_cons (ps_setLc (i := 11) (own := [("_law_k", 12)]) (g := gName 12) (tt := tTest (tOp (rIn K true) (tVar 12) (tLc (iList K (tVar 7)) (gName 14) (tYes) (tOp (rIxT K) (tVar 14) (tC (.int 0))) [14]))) (te := tVar 12) rfl scLv.nd rfl rfl (sw_true rfl rfl rfl (by decide +kernel)) (pi_range1 (by rfl) m_range (pa_cons (pe_callB call_lenQ (by rfl) m_len PySem.boot_len (pa_cons (pv 1) pa_nil)) pa_nil)) (blkOk_by (N := ["_law_instance_here", "_law_value", "_law_groups", "_law_number", "_law_group", "_law_excess", "_law_free", "_law_rows_here", "_law_first", "_law_second", "_law_count", "_law_others", "_law_k", "_law_many", "_law_row"]) (sc := defScope sLv) (by decide +kernel)) (fun _ _ _ _ _ => pg_name (i := 12) scLv.nd rfl (.inl rfl)) (fun _ _ _ _ _ => pts_one (pt_cmpR op_notIn_seq (pv 12) (pe_lc (own := [("_law_row", 14)]) (g := gName 14) (tt := tYes) (te := tOp (rIxT K) (tVar 14) (tC (.int 0))) rfl scLv.nd (pi_list (pv 7)) (blkOk_by (N := ["_law_instance_here", "_law_value", "_law_groups", "_law_number", "_law_group", "_law_excess", "_law_free", "_law_rows_here", "_law_first", "_law_second", "_law_count", "_law_others", "_law_k", "_law_many", "_law_row"]) (sc := { kind := .function, names := [(".0", .local), ("_law_k", .local), ("_law_rows_here", .cell)], isGenerator := false, isCoroutine := false }) (by decide +kernel)) (fun _ _ _ _ _ => pg_name (i := 14) scLv.nd rfl (.inl rfl)) (fun _ _ _ _ _ => pts_nil) (fun _ _ _ _ _ => pe_ix ix_tup (pv 14) (pe_int) (fun _ _ => rfl))) (by rfl))) (fun _ _ _ _ _ => pv 12))
      (pss_cons (ps_if (PW.pt (pw_or (pt_cmpR (op_neD hu64) (pe_lc (own := [("_law_k", 12)]) (g := gName 12) (tt := tTest (tOp rNe (tOp (rIxT K) (tVar 1) (tVar 12)) (tC (.int 0)))) (te := tVar 12) rfl scLv.nd (pi_list (pv 11)) (blkOk_by (N := ["_law_instance_here", "_law_value", "_law_groups", "_law_number", "_law_group", "_law_excess", "_law_free", "_law_rows_here", "_law_first", "_law_second", "_law_count", "_law_others", "_law_k", "_law_many", "_law_row"]) (sc := defScope sLv) (by decide +kernel)) (fun _ _ _ _ _ => pg_name (i := 12) scLv.nd rfl (.inl rfl)) (fun _ _ _ _ _ => pts_one (pt_cmpR op_ne (pe_ix ix_tup (pv 1) (pv 12) (fun _ _ => rfl)) (pe_int) (nomark _))) (fun _ _ _ _ _ => pv 12)) (pe_lst (pa_nil)) (nomark _)) (pw_or1 (pt_cmpR (op_neD hu64) (pe_lc (own := [("_law_many", 13)]) (g := gName 13) (tt := tTest (tOp rNe (tVar 13) (tC (.int 0)))) (te := tVar 13) rfl scLv.nd (pi_list (pv 5)) (blkOk_by (N := ["_law_instance_here", "_law_value", "_law_groups", "_law_number", "_law_group", "_law_excess", "_law_free", "_law_rows_here", "_law_first", "_law_second", "_law_count", "_law_others", "_law_k", "_law_many", "_law_row"]) (sc := defScope sLv) (by decide +kernel)) (fun _ _ _ _ _ => pg_name (i := 13) scLv.nd rfl (.inl rfl)) (fun _ _ _ _ _ => pts_one (pt_cmpR op_ne (pv 13) (pe_int) (nomark _))) (fun _ _ _ _ _ => pv 13)) (pe_lst (pa_nil)) (nomark _)))))
        (pss_one (ps_ret (pe_bl))) pss_nil)
      (pss_one (ps_ret (pe_cmpR (op_eqD hu64) (pe_lc (own := [("_law_many", 13)]) (g := gName 13) (tt := tTest (tOp (rI0 fun i j => .bl (decide (i < j))) (tVar 13) (tC (.int 0)))) (te := tVar 13) rfl scLv.nd (pi_list (pv 6)) (blkOk_by (N := ["_law_instance_here", "_law_value", "_law_groups", "_law_number", "_law_group", "_law_excess", "_law_free", "_law_rows_here", "_law_first", "_law_second", "_law_count", "_law_others", "_law_k", "_law_many", "_law_row"]) (sc := defScope sLv) (by decide +kernel)) (fun _ _ _ _ _ => pg_name (i := 13) scLv.nd rfl (.inl rfl)) (fun _ _ _ _ _ => pts_one (pt_cmpR op_lt (pv 13) (pe_int) (nomark _))) (fun _ _ _ _ _ => pv 13)) (pe_lst (pa_nil)) (nomark _))))))))))), ?_⟩
    obtain ⟨_, ca, ga, ys, e, hi, hc, hgt, hgs⟩ := inst_open hI
    cases e
    have lx := DpAll.len hgs
    rw [List.length_map] at lx
    have h6 := ok.c6
    have h10 := ok.g10
    refine ⟨.ref i, rfl, i, _, 1, .ref ga, rfl, rfl, hi, atI_nat (j := 1) rfl, ?_⟩
    refine ⟨v, rfl, v, .ty "tuple", _, _, _, rfl, .ty _, hv.ty, kit_tup d, _, rfl, ?_⟩
    by_cases hd0 : isTup d = true
    case neg =>
      refine iteTT (by simpa using hd0) ?_
      have : isVecD cs gs d = false := by
        unfold isVecD
        cases d with
        | tuple ds => exact absurd rfl hd0
        | _ => rfl
      rw [this] at q
      exact iteT (q _ (Same.refl _))
    obtain ⟨ds, rfl⟩ : ∃ ds, d = .tuple ds := by
      cases d with
      | tuple ds => exact ⟨ds, rfl⟩
      | _ => simp [isTup] at hd0
    obtain ⟨b, rfl, zs, hB, hzs⟩ : ∃ b, v = .ref b ∧ ∃ zs, SqT K H b zs ∧ DqAll K st r H zs ds := by
      cases hv with
      | tup h1 h2 => exact ⟨_, rfl, _, h1, h2⟩
    have lzs := DqAll.len hzs
    refine iteFF (by simp [isTup]) ?_
    refine ⟨.ref b, rfl, b, _, rfl, .inr hB, .ref ga, rfl, ga, _, rfl, .inr hgt, rfl, _, rfl, ite2 (fun h1 => ?_) (fun h1 => ?_)⟩
    · have h1 : ¬ ds.length = gs.length := by simp at h1; omega
      have : isVecD cs gs (.tuple ds) = false := by
        have h2 : tupOfD (gs.length : Nat) (gs.length : Nat) (.tuple ds) = false := decide_eq_false (by omega)
        unfold isVecD
        rw [h2]; rfl
      rw [this] at q
      exact q _ (Same.refl _)
    have hdl : ds.length = gs.length := by simp at h1; omega
    have hb : tupOfD (gs.length : Nat) (gs.length : Nat) (.tuple ds) = true := by unfold tupOfD; exact decide_eq_true (by omega)
    have isv : isVecD cs gs (.tuple ds) = ((gs.zip ds).all (fun z => withinD 0 z.1.2 z.2) && meetsD cs gs (ds.map intAt)) := by unfold isVecD; rw [hb]; rfl
    refine ⟨.ref b, rfl, .ref ga, rfl, b, ga, _, _, rfl, .inr ⟨hB, hgt, for_it (walk_zipT (K := K) (a := b) (b := ga) (xs := zs) (ys := ys) rfl)
      (fun j σ H2 => ∃ (y3 y4 : Option V), σ = [some (.ref i), some (.ref b), some (.ref ga), y3, y4, none, none, none, none, none, none, none, none, none, none] ∧ Same H H2 ∧ ∀ k, k < j → ∀ (g : Gp) (d : PyData), gs[k]? = some g → ds[k]? = some d → withinD 0 g.2 d = true)
      ⟨none, none, rfl, Same.refl _, fun k h => by omega⟩ (fun j σ H2 _ h => by obtain ⟨_, _, _, s2, _⟩ := h; exact ⟨sqS s2 hB, sqS s2 hgt⟩) ?_ ?_⟩⟩
    · rintro j x σ H2 H3 hlt ⟨y3, y4, rfl, s2, hw⟩ ⟨T, x0, y0, rfl, nT, rfl, ex, ey⟩
      have hj : j < gs.length := by omega
      have hg : gs[j]? = some gs[j] := List.getElem?_eq_getElem hj
      have ex : zs[j]? = some x0 := ex
      have ey : ys[j]? = some y0 := ey
      obtain ⟨gA, pA, hx, hG, hP⟩ := grp_at hgs hg
      rw [hx] at ey
      cases ey
      obtain ⟨dy, hdy, hyd⟩ := DqAll.at hzs ex
      have sT := sameNew (o := .tup [x0, .ref gA]) nT
      have s3 := s2.trans sT
      have hyd3 := hyd.lasts (.of s3)
      have hq : (gs.zip ds)[j]? = some (gs[j], dy) := by rw [List.getElem?_zip_eq_some]; exact ⟨hg, hdy⟩
      have bad : withinD 0 gs[j].2 dy = false → isVecD cs gs (.tuple ds) = false := by
        intro h
        rw [isv]
        have : (gs.zip ds).all (fun z => withinD 0 z.1.2 z.2) = false := by
          rw [List.all_eq_false]
          exact ⟨_, List.mem_of_getElem? hq, by simp [h]⟩
        rw [this]; rfl
      have good : withinD 0 gs[j].2 dy = true → ∀ k, k < j + 1 → ∀ (g : Gp) (d : PyData), gs[k]? = some g → ds[k]? = some d → withinD 0 g.2 d = true := by
        intro h k hk g d h1 h2
        by_cases hkj : k < j
        · exact hw k hkj g d h1 h2
        · have : k = j := by omega
          subst this
          rw [hg] at h1
          rw [hdy] at h2
          cases h1
          cases h2
          exact h
      refine ⟨T, _, rfl, SqT.of upd_same, rfl, _, _, rfl, _, _, rfl, rfl, ?_⟩
      refine ⟨x0, rfl, x0, .ty "bool", _, _, _, rfl, .ty _, hyd3.ty, kit_bool dy, _, rfl, ?_⟩
      by_cases hbo : isBool dy = true
      · refine iteTT hbo ?_
        rw [bad (by cases dy with | bool _ => rfl | _ => simp [isBool] at hbo)] at q
        exact iteT (q _ s3)
      refine iteFF (by simpa using hbo) ?_
      refine ⟨x0, rfl, x0, .ty "int", _, _, _, rfl, .ty _, hyd3.ty, kit_int dy, _, rfl, ?_⟩
      by_cases hin : isInt dy = true
      case neg =>
        refine iteTT (by simpa using hin) ?_
        rw [bad (by cases dy with | int _ => simp [isInt] at hin | _ => rfl)] at q
        exact iteT (q _ s3)
      obtain ⟨xi, rfl⟩ : ∃ xi, dy = .int xi := by
        cases dy with
        | int x => exact ⟨x, rfl⟩
        | bool _ => simp [isBool] at hbo
        | _ => simp [isInt] at hin
      cases hyd3
      refine iteFF rfl ?_
      refine ⟨.int xi, rfl, _, _, rfl, rfl, _, rfl, ?_⟩
      by_cases h0 : (0 : Int) ≤ xi
      case neg =>
        refine iteFF (decide_eq_false h0) ?_
        rw [bad (by simp [withinD, h0])] at q
        exact ⟨_, rfl, iteT (q _ s3)⟩
      refine iteTT (decide_eq_true h0) ?_
      refine ⟨.ref gA, rfl, gA, _, 1, .int gs[j].2, rfl, rfl, sqS s3 hG, atI_nat (j := 1) rfl, _, _, rfl, rfl, _, rfl, ?_⟩
      by_cases h2 : xi ≤ gs[j].2
      case neg =>
        refine iteTT (by simp [h2]) ?_
        rw [bad (by simp [withinD, h2])] at q
        exact q _ s3
      refine iteFF (by simp [h2]) ?_
      exact ⟨_, _, rfl, s3, good (by simp [withinD, h0, h2])⟩
    rintro σ H2 ⟨y3, y4, rfl, s2, hw⟩
    have hwa : (gs.zip ds).all (fun z => withinD 0 z.1.2 z.2) = true := by
      rw [List.all_eq_true]
      intro z hz
      obtain ⟨k, hk, e⟩ := List.mem_iff_getElem.mp hz
      have hk2 := hk
      rw [List.length_zip] at hk2
      have e2 := List.getElem?_eq_getElem hk
      rw [e, List.getElem?_zip_eq_some] at e2
      exact hw k (by omega) _ _ e2.1 e2.2
    rw [isv, hwa, Bool.true_and] at q
    have hint : ∀ d ∈ ds, ∃ x, d = PyData.int x := by
      intro d hd
      obtain ⟨j, hj, e⟩ := List.mem_iff_getElem.mp hd
      have hjg : j < gs.length := by omega
      have h1 := hw j (by omega) _ _ (List.getElem?_eq_getElem hjg) (List.getElem?_eq_getElem hj)
      rw [← e]
      cases hds : ds[j] with
      | int x => exact ⟨x, rfl⟩
      | _ => rw [hds] at h1; simp [withinD] at h1
    have hzv := ints_vals hint hzs
    generalize hxs : ds.map intAt = xs at q hzv
    have hxl : xs.length = gs.length := by rw [← hxs, List.length_map]; exact hdl
    rw [hzv] at hB
    rw [meets_by hxl] at q
    have hml := mvR_len cs.length xs
    refine ⟨.ref i, rfl, i, cs, gs, rfl, (TupK.of s2).dp _ _ (to_dInst _ _) hI, ok, fun H3 T E F s3 hT eE eF fE fF nEF => ⟨T, _, rfl, hT, rfl, _, _, rfl, _, _, rfl, rfl, ?_⟩⟩
    have s03 := s2.trans s3
    refine ⟨.ref i, rfl, i, cs, gs, rfl, (TupK.of s03).dp _ _ (to_dInst _ _) hI, ok, fun H4 Ro vs s4 eR hR fR => ?_⟩
    have nER : E ≠ Ro := ne_of_none eE fR
    have nFR : F ≠ Ro := ne_of_none eF fR
    have hrl := rowsTo_len cs gs gs.length
    have hvl := hR.1
    refine ⟨.ref Ro, rfl, Ro, rfl, ⟨_, SqL.of eR⟩, for_it (walk_list (K := K) (a := Ro) (xs := vs))
      (fun j σ H5 => ∃ (y3 y4 y8 y9 y10 : Option V), σ = [some (.ref i), some (.ref b), some (.ref ga), y3, y4, some (.ref E), some (.ref F), some (.ref Ro), y8, y9, y10, none, none, none, none] ∧ Same H2 H5 ∧ TupK H4 H5 ∧ H5 Ro = some (.lst vs) ∧
        H5 E = some (.lst ((subL (rExc cs gs) (mvR cs.length xs ((rowsTo cs gs gs.length).take j)).1).map V.int)) ∧ H5 F = some (.lst ((subL (rFre cs gs) (mvR cs.length xs ((rowsTo cs gs gs.length).take j)).2).map V.int)))
      ⟨_, _, none, none, none, rfl, s3.trans s4, TupK.refl _, eR, ?_, ?_⟩ (fun j σ H5 _ h => by obtain ⟨_, _, _, _, _, _, _, _, e5, _⟩ := h; exact SqL.of e5) ?_ ?_⟩
    · have h0 : subL (rExc cs gs) (mvR cs.length xs ((rowsTo cs gs gs.length).take 0)).1 = rExc cs gs := by
        have := sub_zero (rExc cs gs); rw [rExc_len] at this; exact this
      rw [h0]; exact s4 _ _ eE
    · have h0 : subL (rFre cs gs) (mvR cs.length xs ((rowsTo cs gs gs.length).take 0)).2 = rFre cs gs := by
        have := sub_zero (rFre cs gs); rw [rFre_len] at this; exact this
      rw [h0]; exact s4 _ _ eF
    · rintro j x σ H5 H6 hlt ⟨y3, y4, y8, y9, y10, rfl, s5, tk5, eR5, eE5, eF5⟩ ⟨rfl, hx⟩
      have hx : vs[j]? = some x := hx
      obtain ⟨⟨gi, p0, q0, c0⟩, hr, T2, rfl, hT2⟩ := hR.at hx
      obtain ⟨g, hg, hro, hgl⟩ := row_mem (List.mem_of_getElem? hr)
      dsimp only at hg hro hgl
      obtain ⟨hp0, hq0⟩ := route_in ok (List.mem_of_getElem? hg) hro
      have hsn : mvR cs.length xs ((rowsTo cs gs gs.length).take (j + 1)) = stepR xs (mvR cs.length xs ((rowsTo cs gs gs.length).take j)) (gi, p0, q0, c0) := by rw [take_snoc hr, mvR_snoc]
      obtain ⟨pn, rfl⟩ : ∃ pn : Nat, p0 = pn := ⟨p0.toNat, by simp only at hp0; omega⟩
      have l1 : (rExc cs gs).length = (mvR cs.length xs ((rowsTo cs gs gs.length).take j)).1.length := by rw [rExc_len, (hml _).1]
      have l2 : (rFre cs gs).length = (mvR cs.length xs ((rowsTo cs gs gs.length).take j)).2.length := by rw [rFre_len, (hml _).2]
      have hpl : pn < (subL (rExc cs gs) (mvR cs.length xs ((rowsTo cs gs gs.length).take j)).1).length := by rw [subL_len l1, rExc_len]; simp only at hp0; omega
      have hgx : gi < xs.length := by omega
      have hgd : xs.getD gi 0 = xs[gi] := by rw [List.getD_eq_getElem?_getD, List.getElem?_eq_getElem hgx]; rfl
      have hB6 := sqS (s2.trans s5) hB
      refine ⟨T2, _, rfl, tk5.sq hT2, rfl, _, _, rfl, _, _, rfl, _, _, rfl, _, _, rfl, rfl, ?_⟩
      refine ⟨.ref E, rfl, .int pn, rfl, E, _, _, _, rfl, rfl, SqL.of eE5, atI_nat (atS hpl), .ref b, rfl, .int (gi : Nat), rfl, b, _, _, _, rfl, rfl, hB6, atI_nat (atS hgx), _, _, rfl, rfl, .ref E, rfl, .int pn, rfl, E, _, _, pn, rfl, rfl, eE5, ixN_nat (by rw [List.length_map]; exact hpl), ?_⟩
      have hset : ((subL (rExc cs gs) (mvR cs.length xs ((rowsTo cs gs gs.length).take j)).1).map V.int).set pn (.int ((subL (rExc cs gs) (mvR cs.length xs ((rowsTo cs gs gs.length).take j)).1)[pn] - xs[gi])) = (subL (rExc cs gs) (mvR cs.length xs ((rowsTo cs gs gs.length).take (j + 1))).1).map V.int := by
        rw [hsn]
        unfold stepR
        rw [hgd]
        show _ = (subL (rExc cs gs) (addAt _ pn xs[gi])).map V.int
        rw [sub_add l1 hpl, List.map_set]
      dsimp only
      rw [hset]
      have s7 := samePut (o := .lst ((subL (rExc cs gs) (mvR cs.length xs ((rowsTo cs gs gs.length).take (j + 1))).1).map V.int)) s5 fE
      have tk7 := tk5.trans (TupK.put (o := .lst ((subL (rExc cs gs) (mvR cs.length xs ((rowsTo cs gs gs.length).take (j + 1))).1).map V.int)) eE5)
      have eE7 : (upd H6 E (.lst ((subL (rExc cs gs) (mvR cs.length xs ((rowsTo cs gs gs.length).take (j + 1))).1).map V.int))) E = _ := upd_same
      have eF7 : (upd H6 E (.lst ((subL (rExc cs gs) (mvR cs.length xs ((rowsTo cs gs gs.length).take (j + 1))).1).map V.int))) F = _ := (upd_ne nEF.symm).trans eF5
      have eR7 : (upd H6 E (.lst ((subL (rExc cs gs) (mvR cs.length xs ((rowsTo cs gs gs.length).take (j + 1))).1).map V.int))) Ro = _ := (upd_ne nER.symm).trans eR5
      generalize upd H6 E (.lst ((subL (rExc cs gs) (mvR cs.length xs ((rowsTo cs gs gs.length).take (j + 1))).1).map V.int)) = H7 at s7 tk7 eE7 eF7 eR7
      have hB7 := sqS (s2.trans s7) hB
      cases q0 with
      | none =>
        refine ⟨_, rfl, _, rfl, iteFF (by simp [oV]) ?_⟩
        refine ⟨_, _, _, _, _, rfl, s7, tk7, eR7, eE7, ?_⟩
        rw [eF7, hsn]; rfl
      | some y0 =>
        have hy0 := hq0 y0 rfl
        obtain ⟨yn, rfl⟩ : ∃ yn : Nat, y0 = yn := ⟨y0.toNat, by omega⟩
        have hyl : yn < (subL (rFre cs gs) (mvR cs.length xs ((rowsTo cs gs gs.length).take j)).2).length := by rw [subL_len l2, rFre_len]; omega
        refine ⟨_, rfl, _, rfl, iteTT (by simp [oV]) ?_⟩
        refine ⟨.ref F, rfl, .int yn, rfl, F, _, _, _, rfl, rfl, SqL.of eF7, atI_nat (atS hyl), .ref b, rfl, .int (gi : Nat), rfl, b, _, _, _, rfl, rfl, hB7, atI_nat (atS hgx), _, _, rfl, rfl, .ref F, rfl, .int yn, rfl, F, _, _, yn, rfl, rfl, eF7, ixN_nat (by rw [List.length_map]; exact hyl), ?_⟩
        refine ⟨_, _, _, _, _, rfl, samePut s7 fF, tk7.trans (TupK.put eF7), (upd_ne nFR.symm).trans eR7, (upd_ne nEF).trans eE7, ?_⟩
        rw [upd_same, hsn]
        unfold stepR
        rw [hgd]
        show _ = some (HO.lst ((subL (rFre cs gs) (addAt _ yn xs[gi])).map V.int))
        rw [sub_add l2 hyl, List.map_set]
    rintro σ H5 ⟨y3, y4, y8, y9, y10, rfl, s5, tk5, eR5, eE5, eF5⟩
    rw [hvl, List.take_length] at eE5 eF5
    have s05 := s2.trans s5
    have hB5 := sqS s05 hB
    have hR5 : Rl (RwV K H5) vs (rowsTo cs gs gs.length) := hR.mono fun v r h => h.tk tk5
    -- others
    refine ⟨.ref b, rfl, b, _, rfl, .inr hB5, _, rfl, by omega, by rw [List.length_map]; omega, fun D nD => lc_it (walk_range (lo := 0) (n := (((List.map V.int xs).length : Nat) : Int).toNat))
      (LcP H5 D (List.range xs.length) (fun (k : Nat) => if (!((rowsTo cs gs gs.length).map (fun r => (r.1 : Int))).contains (k : Int)) = true then some (.int (k : Nat)) else none)) (.start nD) (fun _ _ _ _ => trivial) ?_ ?_⟩
    · rintro j v H6 H7 hlt hL ⟨rfl, rfl⟩
      rw [List.length_map, Int.toNat_natCast] at hlt
      have e0 : (0 : Int) + (j : Nat) = ((j : Nat) : Int) := by omega
      have hz : (List.range xs.length)[j]? = some j := List.getElem?_range hlt
      have eR6 := hL.1 _ _ eR5
      dsimp only
      rw [e0]
      refine ⟨rfl, .int (j : Nat), rfl, .ref Ro, rfl, Ro, rfl, ⟨_, SqL.of eR6⟩, fun D2 nD2 => lc_it (walk_list (K := K) (a := Ro) (xs := vs))
        (LcP H7 D2 (rowsTo cs gs gs.length) (fun r => some (.int (r.1 : Nat)))) (.start nD2) (fun j H _ h => SqL.of (h.1 _ _ eR6)) ?_ ?_⟩
      · rintro m v H8 H9 hm hM ⟨rfl, hv⟩
        have hv : vs[m]? = some v := hv
        obtain ⟨r, hr, T3, rfl, hT3⟩ := hR5.at hv
        exact ⟨rfl, .ref T3, rfl, T3, _, 0, _, rfl, rfl, sqS (hL.1.trans hM.1) hT3, atI_nat (j := 0) rfl, hM.yes nD2 (Same.refl _) hr rfl (by omega)⟩
      rintro H8 hM
      have e8 := hM.done (Nat.le_of_eq hvl.symm)
      have hmm : (rowsTo cs gs gs.length).filterMap (fun r => some (V.int (r.1 : Nat))) = ((rowsTo cs gs gs.length).map (fun r => (r.1 : Int))).map V.int := by rw [fm_map, List.map_map]; rfl
      rw [hmm] at e8
      refine ⟨D2, _, rfl, .inl (SqL.of e8), rfl, flat_ints _, _, rfl, ?_⟩
      rw [if_pos rfl, inV_ints]
      refine ite2 (fun h2 => ?_) (fun h2 => ?_)
      · exact ⟨_, rfl, hL.yes nD hM.1 hz (if_pos h2) (by omega)⟩
      · exact hL.no hM.1 hz (if_neg h2)
    rintro H6 hL
    have e6 := hL.done (by rw [List.length_range, List.length_map]; omega)
    have ho : (List.range xs.length).filterMap (fun (k : Nat) => if (!((rowsTo cs gs gs.length).map (fun r => (r.1 : Int))).contains (k : Int)) = true then some (V.int (k : Nat)) else none) = ((othOf cs gs xs.length).map (fun (k : Nat) => (k : Int))).map V.int := by rw [fm_filter, List.map_map]; rfl
    rw [ho] at e6
    have s06 := s05.trans hL.1
    have hB6 := sqS s06 hB
    have eE6 := hL.1 _ _ eE5
    have eF6 := hL.1 _ _ eF5
    have hol : ((othOf cs gs xs.length).map (fun (k : Nat) => (k : Int))).length ≤ 10 := by
      rw [List.length_map]
      unfold othOf
      exact Nat.le_trans (List.length_filter_le _ _) (by rw [List.length_range]; omega)
    refine ⟨.ref D, rfl, D, rfl, ⟨_, SqL.of e6⟩, fun D3 nD3 => lc_it (walk_list (K := K) (a := D) (xs := ((othOf cs gs xs.length).map (fun (k : Nat) => (k : Int))).map V.int))
      (LcP H6 D3 ((othOf cs gs xs.length).map (fun (k : Nat) => (k : Int))) (fun k => if (!decide (xs.getD k.toNat 0 = 0)) = true then some (.int k) else none)) (.start nD3) (fun j H _ h => SqL.of (h.1 _ _ e6)) ?_ ?_⟩
    · rintro m v H8 H9 hm hM ⟨rfl, hv⟩
      have hv : (((othOf cs gs xs.length).map (fun (k : Nat) => (k : Int))).map V.int)[m]? = some v := hv
      rw [List.getElem?_map] at hv
      obtain ⟨k, hk, rfl⟩ := Option.map_eq_some_iff.mp hv
      obtain ⟨kn, rfl, hkn⟩ := oth_mem (List.mem_of_getElem? hk)
      rw [List.length_map] at hm
      refine ⟨rfl, .ref b, rfl, .int (kn : Nat), rfl, b, _, _, _, rfl, rfl, sqS (hM.1) hB6, atI_nat (atS hkn), rfl, _, rfl, ?_⟩
      have hgd : xs.getD kn 0 = xs[kn] := by rw [List.getD_eq_getElem?_getD, List.getElem?_eq_getElem hkn]; rfl
      refine ite2 (fun h2 => ?_) (fun h2 => ?_)
      · exact ⟨_, rfl, hM.yes nD3 (Same.refl _) hk (by rw [Int.toNat_natCast, hgd]; simp at h2 ⊢; exact h2) (by omega)⟩
      · exact hM.no (Same.refl _) hk (by rw [Int.toNat_natCast, hgd]; simp at h2 ⊢; exact h2)
    rintro H8 hM
    have e8 := hM.done (by simp)
    rw [fm_filter] at e8
    refine ⟨Nat.zero_le _, fun Em nEm => ⟨.list ((((othOf cs gs xs.length).map (fun (k : Nat) => (k : Int))).filter (fun k => !decide (xs.getD k.toNat 0 = 0))).map PyData.int), .list [], .lst (SqL.of (upNew nEm e8)) (dp_ints _), .lst (SqL.of upd_same) .nil, shaped_ints _, by decide, _, rfl, ?_⟩⟩
    rw [eqv_empty, List.isEmpty_map]
    have s9 := hM.1.trans (sameNew (o := .lst []) nEm)
    generalize upd H8 Em (.lst []) = H9 at s9
    have eE9 := s9 _ _ eE6
    have eF9 := s9 _ _ eF6
    have s09 := s06.trans s9
    refine ite2 (fun h1 => ?_) (fun h1 => ?_)
    · have h1 : (((othOf cs gs xs.length).map (fun (k : Nat) => (k : Int))).filter (fun k => !decide (xs.getD k.toNat 0 = 0))).isEmpty = false := by simpa using h1
      rw [h1] at q
      exact iteT (q _ s09)
    have h1 : (((othOf cs gs xs.length).map (fun (k : Nat) => (k : Int))).filter (fun k => !decide (xs.getD k.toNat 0 = 0))).isEmpty = true := by simpa using h1
    rw [h1, Bool.true_and] at q
    generalize hzE : subL (rExc cs gs) (mvR cs.length xs (rowsTo cs gs gs.length)).1 = zE at q eE9
    generalize hzF : subL (rFre cs gs) (mvR cs.length xs (rowsTo cs gs gs.length)).2 = zF at q eF9
    have lE : zE.length ≤ 6 := by rw [← hzE, subL_len (by rw [rExc_len, (hml _).1]), rExc_len]; omega
    have lF : zF.length ≤ 6 := by rw [← hzF, subL_len (by rw [rFre_len, (hml _).2]), rFre_len]; omega
    refine ⟨.ref E, rfl, E, rfl, ⟨_, SqL.of eE9⟩, fun D4 nD4 => lc_it (walk_list (K := K) (a := E) (xs := zE.map V.int))
      (LcP H9 D4 zE (fun x => if (!decide (x = 0)) = true then some (.int x) else none)) (.start nD4) (fun j H _ h => SqL.of (h.1 _ _ eE9)) ?_ ?_⟩
    · rintro m v H10 H11 hm hN ⟨rfl, hv⟩
      have hv : (zE.map V.int)[m]? = some v := hv
      rw [List.getElem?_map] at hv
      obtain ⟨k, hk, rfl⟩ := Option.map_eq_some_iff.mp hv
      rw [List.length_map] at hm
      refine ⟨rfl, .int k, rfl, rfl, _, rfl, ite2 (fun h2 => ?_) (fun h2 => ?_)⟩
      · exact ⟨_, rfl, hN.yes nD4 (Same.refl _) hk (by simp at h2 ⊢; exact h2) (by omega)⟩
      · exact hN.no (Same.refl _) hk (by simp at h2 ⊢; exact h2)
    rintro H10 hN
    have e10 := hN.done (by rw [List.length_map]; exact Nat.le_refl _)
    rw [fm_filter] at e10
    refine ⟨Nat.zero_le _, fun Em2 nEm2 => ⟨.list ((zE.filter (fun x => !decide (x = 0))).map PyData.int), .list [], .lst (SqL.of (upNew nEm2 e10)) (dp_ints _), .lst (SqL.of upd_same) .nil, shaped_ints _, by decide, _, rfl, ?_⟩⟩
    rw [eqv_empty, List.isEmpty_map]
    have s11 := hN.1.trans (sameNew (o := .lst []) nEm2)
    generalize upd H10 Em2 (.lst []) = H11 at s11
    have eF11 := s11 _ _ eF9
    have s011 := s09.trans s11
    cases hf2 : (zE.filter (fun x => !decide (x = 0))).isEmpty with
    | false =>
      rw [hf2] at q
      exact iteT (q _ s011)
    | true =>
    rw [hf2, Bool.true_and] at q
    refine iteF ?_
    refine ⟨.ref F, rfl, F, rfl, ⟨_, SqL.of eF11⟩, fun D5 nD5 => lc_it (walk_list (K := K) (a := F) (xs := zF.map V.int))
      (LcP H11 D5 zF (fun x => if (decide (x < 0)) = true then some (.int x) else none)) (.start nD5) (fun j H _ h => SqL.of (h.1 _ _ eF11)) ?_ ?_⟩
    · rintro m v H12 H13 hm hN ⟨rfl, hv⟩
      have hv : (zF.map V.int)[m]? = some v := hv
      rw [List.getElem?_map] at hv
      obtain ⟨k, hk, rfl⟩ := Option.map_eq_some_iff.mp hv
      rw [List.length_map] at hm
      refine ⟨rfl, .int k, rfl, _, _, rfl, rfl, _, rfl, ite2 (fun h2 => ?_) (fun h2 => ?_)⟩
      · exact ⟨_, rfl, hN.yes nD5 (Same.refl _) hk (if_pos h2) (by omega)⟩
      · exact hN.no (Same.refl _) hk (if_neg h2)
    rintro H12 hN2
    have e12 := hN2.done (by rw [List.length_map]; exact Nat.le_refl _)
    rw [fm_filter] at e12
    refine ⟨Nat.zero_le _, fun Em3 nEm3 => ⟨.list ((zF.filter (fun x => decide (x < 0))).map PyData.int), .list [], .lst (SqL.of (upNew nEm3 e12)) (dp_ints _), .lst (SqL.of upd_same) .nil, shaped_ints _, by decide, ?_⟩⟩
    rw [eqv_empty, List.isEmpty_map]
    exact q _ (s011.trans (hN2.1.trans (sameNew nEm3)))
end
end Pv

namespace Pv
open PySem PySem.Spec PyProof.Rows L2
abbrev sOd : Stmt := topS 51
theorem scOd : FnScope ["_law_deck", "_law_some"] ["_law_deck"] (defScope sOd) := ⟨rfl, rfl, rfl, by decide +kernel, rfl, by decide +kernel, by decide +kernel⟩
def oddL : List PyData := [.none, .bool true, .bool false, .int (-1), .int 0, .int 1, .int 2, .int 10, .int (10 ^ (29 : Int).toNat), .str "", .str "0", .tuple [], .list [], .dict [], .tuple [.int 0], .list [.int 0], .tuple [.bool true], .tuple [.tuple [.int 0]], .dict [(.str "a", .int 1)]]
theorem odd_fit : ∀ d ∈ oddL, Fit (10 ^ 29) 2 500 d := by
  intro d hd
  simp only [oddL, List.mem_cons, List.not_mem_nil, or_false] at hd
  rcases hd with rfl | rfl | rfl | rfl | rfl | rfl | rfl | rfl | rfl | rfl | rfl | rfl | rfl | rfl | rfl | rfl | rfl | rfl | rfl
  · exact ⟨by simp [fit, fitAll], by simp [PyData.depth, PyData.depthAll], by simp [wt, wtAll]⟩
  · exact ⟨by simp [fit, fitAll], by simp [PyData.depth, PyData.depthAll], by simp [wt, wtAll]⟩
  · exact ⟨by simp [fit, fitAll], by simp [PyData.depth, PyData.depthAll], by simp [wt, wtAll]⟩
  · exact ⟨by simp [fit, fitAll], by simp [PyData.depth, PyData.depthAll], by simp [wt, wtAll]⟩
  · exact ⟨by simp [fit, fitAll], by simp [PyData.depth, PyData.depthAll], by simp [wt, wtAll]⟩
  · exact ⟨by simp [fit, fitAll], by simp [PyData.depth, PyData.depthAll], by simp [wt, wtAll]⟩
  · exact ⟨by simp [fit, fitAll], by simp [PyData.depth, PyData.depthAll], by simp [wt, wtAll]⟩
  · exact ⟨by simp [fit, fitAll], by simp [PyData.depth, PyData.depthAll], by simp [wt, wtAll]⟩
  · exact ⟨by simp only [fit]; decide, by simp [PyData.depth], by simp [wt]⟩
  · exact ⟨by simp only [fit]; decide +kernel, by simp [PyData.depth], by simp [wt]⟩
  · exact ⟨by simp only [fit]; decide +kernel, by simp [PyData.depth], by simp [wt]⟩
  · exact ⟨by simp [fit, fitAll], by simp [PyData.depth, PyData.depthAll], by simp [wt, wtAll]⟩
  · exact ⟨by simp [fit, fitAll], by simp [PyData.depth, PyData.depthAll], by simp [wt, wtAll]⟩
  · exact ⟨by simp only [fit]; exact ⟨by decide +kernel, by simp [PyData.showable, PyData.showableKv]⟩, by simp [PyData.depth, PyData.depthKv], by simp [wt]⟩
  · exact ⟨by simp [fit, fitAll], by simp [PyData.depth, PyData.depthAll], by simp [wt, wtAll]⟩
  · exact ⟨by simp [fit, fitAll], by simp [PyData.depth, PyData.depthAll], by simp [wt, wtAll]⟩
  · exact ⟨by simp [fit, fitAll], by simp [PyData.depth, PyData.depthAll], by simp [wt, wtAll]⟩
  · exact ⟨by simp [fit, fitAll], by simp [PyData.depth, PyData.depthAll], by simp [wt, wtAll]⟩
  · exact ⟨by simp only [fit]; exact ⟨by decide +kernel, by simp [PyData.showable, PyData.showableKv]; decide⟩, by simp [PyData.depth, PyData.depthKv], by simp [wt]⟩
section
variable {P : Program} {w : World} {K : PySem.W.Frag} {mg : Str → Option Value} {base : Heap}
def spOd (K : PySem.W.Frag) : Sp := fun vs H Q _ => ∃ (st g : Addr) (t : Nat), vs = [.ref st] ∧ DV H st g t ∧ t < 1000000 ∧ ∀ (H' : Hp) (v : V) (d : PyData), DV H' st g (t + 1) → Ext st g H H' → Dw K (dom H) H' v d → Fit (10 ^ 29) 2 500 d → Q v H'
set_option maxHeartbeats 4000000 in
theorem ok_Od {f fDr : Addr} {fd fdDr : FuncData} (F : Fun K "_law_odd" "_law_odd" sOd f fd)
    (FDr : Fun K "_law_next" "_law_next" sDr fDr fdDr) (bDr : Binds K fdDr ["_law_deck", "_law_many"] []) (gDr : mg "_law_next" = some (.ref fDr)) (GDr : FnOk P w K mg base CX0 1 fDr fdDr ["_law_deck", "_law_many"] spDraw)
     :
    FnOk P w K mg base CX0 2 f fd ["_law_deck"] (spOd K) := by
  refine F.ok scOd (fun vs H Q E h => ?_) (fun cdv A outer s H vs Q E hr h => ?_)
  · obtain ⟨st, g, t, rfl, _⟩ := h; rfl
  · obtain ⟨st, g, t, rfl, d0, ht, q⟩ := h
    refine ⟨_, pss_cons (ps_set (i := 1) scOd.nd rfl (.inl rfl) (pe_lst (t := tLws K oddL) (lws_cons (lw_non pe_non) (lws_cons (lw_bl pe_bl) (lws_cons (lw_bl pe_bl) (lws_cons (lw_neg (pe_un un_neg pe_int)) (lws_cons (lw_int pe_int) (lws_cons (lw_int pe_int) (lws_cons (lw_int pe_int) (lws_cons (lw_int pe_int) (lws_cons (lw_pow (pe_op op_pow pe_int pe_int) ⟨by decide, by decide, by decide⟩) (lws_cons (lw_str pe_str) (lws_cons (lw_str pe_str) (lws_cons (lw_tup (lws_nil) (by decide)) (lws_cons (lw_lst (lws_nil) (by decide)) (lws_cons (lw_dict) (lws_cons (lw_tup (lws_cons (lw_int pe_int) lws_nil) (by decide)) (lws_cons (lw_lst (lws_cons (lw_int pe_int) lws_nil) (by decide)) (lws_cons (lw_tup (lws_cons (lw_bl pe_bl) lws_nil) (by decide)) (lws_cons (lw_tup (lws_cons (lw_tup (lws_cons (lw_int pe_int) lws_nil) (by decide)) lws_nil) (by decide)) (lws_cons (lw_a1 (pe_disp (pps_cons pe_str pe_int pps_nil) rfl rfl (by simp) (by decide))) lws_nil)))))))))))))))))))))
      (pss_one (ps_ret (pe_ix ix_list (pv 1) (pe_call GDr (hr.mono (by omega)) (by rfl) gDr FDr.kp bDr .nil pass0 (pa_cons (pv 0) (pa_cons (pe_int) pa_nil))) (fun _ _ => rfl)))), ?_⟩
    refine ⟨dom H, fun _ h => h, fun H1 vals s1 hall => ⟨by rw [DwAll.len hall]; decide, fun Lt nLt => ?_⟩⟩
    have sL := sameNew (o := .lst vals) nLt
    have dL := d0.same (s1.trans sL)
    obtain ⟨o1, o2⟩ := (d0.same s1).off nLt
    refine ⟨.ref Lt, rfl, .ref st, rfl, st, g, t, 19, rfl, dL, ht, by decide, by decide, fun H' d h0 h19 D' X' => ?_⟩
    obtain ⟨n, rfl⟩ : ∃ n : Nat, d = n := ⟨d.toNat, by omega⟩
    have hL := X' _ _ upd_same o1 o2
    have hallL := (hall.lx (.of sL)).lx (.ext dL X' d0.occ.1 d0.occ.2)
    have hvl : vals.length = 19 := by rw [DwAll.len hall]; rfl
    have hn : n < vals.length := by omega
    obtain ⟨dd, hdd, hdq⟩ := DwAll.at hallL (List.getElem?_eq_getElem hn)
    exact ⟨Lt, _, _, _, rfl, rfl, SqL.of hL, atI_nat (List.getElem?_eq_getElem hn), q _ _ _ D' ((Ext.of (s1.trans sL)).trans X') hdq (odd_fit dd (List.mem_of_getElem? hdd))⟩
end
end Pv

namespace Pv
open PySem PySem.Spec PyProof.Rows L2
abbrev zn1 (h : Heap) (l1 : Addr) : Heap := h.push { cls := .type "tuple_iterator", data := .fields #[.ref l1, .int 0 0] }
abbrev zn2 (h : Heap) (l1 l2 : Addr) : Heap := (zn1 h l1).push { cls := .type "list_iterator", data := .fields #[.ref l2, .int 0 0] }
abbrev zn3 (h : Heap) (l1 l2 : Addr) : Heap := (zn2 h l1 l2).push { cls := .type "tuple", data := .seq #[.ref h.objs.size, .ref (zn1 h l1).objs.size] }
abbrev zn4 (h : Heap) (l1 l2 : Addr) : Heap := (zn3 h l1 l2).push { cls := .type "tuple", data := .seq #[.none, .none] }
abbrev zn5 (h : Heap) (l1 l2 : Addr) : Heap := (zn4 h l1 l2).push { cls := .type "zip", data := .fields #[.none, .bool false, .bool false, .ref (zn2 h l1 l2).objs.size, .ref (zn3 h l1 l2).objs.size] }
theorem zipN_new (l1 l2 : Addr) (xs ys : Array Value) :
    Meets (Builtin.«zip.__new__» ⟨[.type "zip", .ref l1, .ref l2], []⟩) (fun _ R s => s.heap.IsTuple l1 xs ∧ s.heap.IsList l2 ys ∧
      R (.ok (.ret (.ref (zn4 s.heap l1 l2).objs.size))) { s with heap := zn5 s.heap l1 l2 }) :=
  .of_wp fun prog w A R s h => by
    obtain ⟨hp, g, d, tk, os⟩ := s
    obtain ⟨hl1, hl2, h⟩ := h
    have hsub := sub_zip
    have hL1 : Heap.IsTuple (Shared.heap ⟨hp, g, d, tk, os⟩) l1 xs := hl1
    have hL2 : Heap.IsList (Shared.heap ⟨zn1 hp l1, g, d, tk, os⟩) l2 ys := Heap.IsList.push hl2 _
    wp_walk using wpAny_pyIter_tuple hL1, wpAny_pyIter_list hL2
    exact ⟨_, rfl, h⟩
theorem call_zipN {prog : Program} {w : World} {A : Around} {E : Value → Shared → Prop} {s : Shared} {l1 l2 : Addr} {xs ys : Array Value} {Q : Value → Shared → Prop} (hl1 : s.heap.IsTuple l1 xs) (hl2 : s.heap.IsList l2 ys)
    (h : ∀ h', IsZip h' (s.heap.objs.size + 4) (s.heap.objs.size + 2) (s.heap.objs.size + 3) .none → IsPair h' (s.heap.objs.size + 2) (.ref s.heap.objs.size) (.ref (s.heap.objs.size + 1)) →
      IsPair h' (s.heap.objs.size + 3) .none .none → h'.IsTupleIter s.heap.objs.size l1 0 → h'.IsListIter (s.heap.objs.size + 1) l2 0 →
      (∀ c o, s.heap.get? c = some o → h'.get? c = some o) → Q (.ref (s.heap.objs.size + 4)) { s with heap := h' }) :
    wpAny (model prog w) A (call (.type "zip") [.ref l1, .ref l2]) Q E s := by
  refine callType_new F.called_zip (by decide) (F.typeCall_zip_2 _ _) (F.newCall_zip_2 _ _) (fun obj => F.args_object_init_3 obj _ _) F.entry_zip_new (zipN_new l1 l2 xs ys) ⟨hl1, hl2, ?_⟩
  have z1 : (zn1 s.heap l1).objs.size = s.heap.objs.size + 1 := Heap.size_push ..
  have z2 : (zn2 s.heap l1 l2).objs.size = s.heap.objs.size + 2 := by rw [Heap.size_push, z1]
  have z3 : (zn3 s.heap l1 l2).objs.size = s.heap.objs.size + 3 := by rw [Heap.size_push, z2]
  have z4 : (zn4 s.heap l1 l2).objs.size = s.heap.objs.size + 4 := by rw [Heap.size_push, z3]
  have g5 : (zn5 s.heap l1 l2).get? (zn4 s.heap l1 l2).objs.size = some _ := Heap.get?_push_size _ rfl
  have g4 : (zn5 s.heap l1 l2).get? (zn3 s.heap l1 l2).objs.size = some _ := Heap.get?_push_of_some _ (Heap.get?_push_size _ rfl)
  have g3 : (zn5 s.heap l1 l2).get? (zn2 s.heap l1 l2).objs.size = some _ := Heap.get?_push_of_some _ (Heap.get?_push_of_some _ (Heap.get?_push_size _ rfl))
  have g2 : (zn5 s.heap l1 l2).get? (zn1 s.heap l1).objs.size = some _ := Heap.get?_push_of_some _ (Heap.get?_push_of_some _ (Heap.get?_push_of_some _ (Heap.get?_push_size _ rfl)))
  have g1 : (zn5 s.heap l1 l2).get? s.heap.objs.size = some _ := Heap.get?_push_of_some _ (Heap.get?_push_of_some _ (Heap.get?_push_of_some _ (Heap.get?_push_of_some _ (Heap.get?_push_size _ rfl))))
  show _ ∧ _
  rw [z2, z3, z4] at g5
  rw [z1, z2] at g3
  rw [z3] at g4
  rw [z1] at g2
  rw [z4]
  refine ⟨⟨_, g5, rfl⟩, h _ g5 g3 g4 ⟨_, g1, rfl, rfl⟩ ⟨_, g2, rfl, rfl⟩ ?_⟩
  intro c o x
  exact Heap.get?_push_of_some _ (Heap.get?_push_of_some _ (Heap.get?_push_of_some _ (Heap.get?_push_of_some _ (Heap.get?_push_of_some _ x))))
def ItzN (K : PySem.W.Frag) (a b : Addr) : It :=
  ⟨fun i H => ∃ (xs ys : List V) (x y : V), SqT K H a xs ∧ SqL K H b ys ∧ xs[i]? = some x ∧ ys[i]? = some y,
   fun i H v H' => ∃ T x y, v = .ref T ∧ H T = none ∧ H' = upd H T (.tup [x, y]) ∧ (∀ xs, SqT K H a xs → xs[i]? = some x) ∧ ∀ ys, SqL K H b ys → ys[i]? = some y,
   fun i H => ∃ xs ys : List V, SqT K H a xs ∧ SqL K H b ys ∧ min xs.length ys.length = i⟩
theorem turn_zipN {P : Program} {w : World} {K : PySem.W.Frag} {elts : List Expr} {kk : Nat} {tpos : Pos} {a b z TI TO i1 i2 : Addr} (D : ZipApart z TI TO i1 i2 a b) :
    Turn P w K (.Tuple elts kk tpos) (ItzN K a b) [z, TI, TO, i1, i2] z
      (fun i h => IsZip h z TI TO .none ∧ IsPair h TI (.ref i1) (.ref i2) ∧ (∃ x y, IsPair h TO x y) ∧ h.IsTupleIter i1 a i ∧ h.IsListIter i2 b i) where
  mem := by simp
  obj := by
    rintro i h ⟨hz, hTI, ⟨x, y, hTO⟩, ⟨o1, e1, _, d1⟩, ⟨o2, e2, _, d2⟩⟩ c hc
    simp only [List.mem_cons, List.not_mem_nil, or_false] at hc
    rcases hc with rfl | rfl | rfl | rfl | rfl
    · exact ⟨_, hz, fun v q => nomatch q⟩
    · exact ⟨_, hTI, fun v q => nomatch q⟩
    · exact ⟨_, hTO, fun v q => nomatch q⟩
    · exact ⟨o1, e1, fun v q => by rw [d1] at q; cases q⟩
    · exact ⟨o2, e2, fun v q => by rw [d2] at q; cases q⟩
  keep := by
    rintro i h h' ⟨hz, hTI, ⟨x, y, hTO⟩, h1, h2⟩ k
    exact ⟨k z (by simp) _ hz, k TI (by simp) _ hTI, ⟨x, y, k TO (by simp) _ hTO⟩, h1.at fun o q => k i1 (by simp) o q, h2.at fun o q => k i2 (by simp) o q⟩
  item := by
    intro X hP hw hK hc i pins s σ H E I hf st hg
    subst hP hw hK
    obtain ⟨hz, hTI, ⟨x0, y0, hTO⟩, h1, h2⟩ := st
    obtain ⟨xs, ys, x, y, hqx, hqy, hx, hy⟩ := hg
    obtain ⟨its, rv, p, _⟩ := I.tuple hqx
    obtain ⟨its2, rv2, p2, _⟩ := I.list hqy
    obtain ⟨u, hu, ru⟩ := rv.get hx
    obtain ⟨u2, hu2, ru2⟩ := rv2.get hy
    have hzl : z < s.heap.objs.size := Heap.lt_size hz
    have hl1 : i < its.toArray.size := by have := (List.getElem?_eq_some_iff.mp hu).1; simpa using this
    have hl2 : i < its2.toArray.size := by have := (List.getElem?_eq_some_iff.mp hu2).1; simpa using this
    refine wpAny_pyNext_zipD2_item (sepM D) (Draws.tuple (A := X.A.in1) (I.ok.hd hc) i1 a D.l1i1 its.toArray) (Draws.list (A := X.A.in1) (I.ok.hd hc) i2 b D.l2i2 its2.toArray) hz hTI hTO ⟨h1, p⟩ ⟨h2, p2.isList⟩ hl1 hl2 ?_
    intro v1 v2 h' tk hv1 hv2 z' TO' st1 st2 hT hsz hk
    have e1 : v1 = u := by
      have h3 : its.toArray[i]? = some u := by simpa using hu
      rw [show its.toArray[i]? = some v1 from hv1] at h3
      exact Option.some.inj h3
    have e2 : v2 = u2 := by
      have h3 : its2.toArray[i]? = some u2 := by simpa using hu2
      rw [show its2.toArray[i]? = some v2 from hv2] at h3
      exact Option.some.inj h3
    subst e1 e2
    refine ⟨_, rfl, wpAny_letOwnedTupleGo_zip (s := { s with heap := h', toks := tk }) z' fun h'' z'' sb => ?_⟩
    have hT2 : h''.get? s.heap.objs.size = some { cls := .type "tuple", data := .seq #[v1, v2] } := (sb.2 _ (Nat.ne_of_gt hzl)).trans hT
    have new : ObjOk X.prog X.w (upd H s.heap.objs.size (.tup [x, y])) h'' s.heap.objs.size (.tup [x, y]) :=
      ⟨by show 2 ≤ sizeLine; decide, [v1, v2], .cons ru (.cons ru2 .nil), ⟨_, hT2, rfl, _, rfl⟩⟩
    have kk : ∀ c o, c ∉ [z, TI, TO, i1, i2] → s.heap.get? c = some o → h''.get? c = some o := by
      intro c o hb q
      simp only [List.mem_cons, List.not_mem_nil, or_false, not_or] at hb
      exact (sb.2 c hb.1).trans (hk c o hb.1 hb.2.2.1 hb.2.2.2.1 hb.2.2.2.2 q)
    have I1 : Inv X pins σ (upd H s.heap.objs.size (.tup [x, y])) { s with heap := h'', toks := tk } :=
      I.turnedNew (t' := tk) (ch := [z, TI, TO, i1, i2]) kk hf (Nat.le_refl _) new
    refine ⟨.ref s.heap.objs.size, _, I1, rfl, ⟨_, x, y, rfl, I.hok.fresh (Nat.le_refl _), rfl, fun l hl => by rw [I.tuple_inj hl hqx]; exact hx, fun l hl => by rw [I.list_inj hl hqy]; exact hy⟩, ⟨z'', ?_, ⟨v1, v2, ?_⟩, ?_, ?_⟩, ?_⟩
    · exact (sb.2 _ D.TIz).trans (hk _ _ D.TIz D.TITO D.TIi1 D.TIi2 hTI)
    · exact (sb.2 _ D.TOz).trans TO'
    · exact st1.1.at fun o q => (sb.2 _ D.i1z).trans q
    · exact st2.1.at fun o q => (sb.2 _ D.i2z).trans q
    · intro c hcm
      have hlt : c < s.heap.objs.size := by
        simp only [List.mem_cons, List.not_mem_nil, or_false] at hcm
        rcases hcm with rfl | rfl | rfl | rfl | rfl
        · exact hzl
        · exact Heap.lt_size hTI
        · exact Heap.lt_size hTO
        · obtain ⟨_, e1, _⟩ := h1; exact Heap.lt_size e1
        · obtain ⟨_, e2, _⟩ := h2; exact Heap.lt_size e2
      rw [upd_ne (Nat.ne_of_lt hlt)]
      exact (hf c hcm).1
  done := by
    intro X hP hw hK hc i pins s σ H E I hf st hg
    subst hP hw hK
    obtain ⟨hz, hTI, ⟨x0, y0, hTO⟩, h1, h2⟩ := st
    obtain ⟨xs, ys, hqx, hqy, hend⟩ := hg
    obtain ⟨its, rv, p, _⟩ := I.tuple hqx
    obtain ⟨its2, rv2, p2, _⟩ := I.list hqy
    have l1 := rv.length
    have l2 := rv2.length
    refine wpAny_pyNext_zipD2_end (i := i) (sepM D) (Draws.tuple (A := X.A.in1) (I.ok.hd hc) i1 a D.l1i1 its.toArray) (Draws.list (A := X.A.in1) (I.ok.hd hc) i2 b D.l2i2 its2.toArray) hz hTI hTO ⟨h1, p⟩ ⟨h2, p2.isList⟩ (by simp; omega) (by simp; omega) (by simp; omega) ?_
    intro h' tk hk
    refine ⟨rfl, I.turnedL (t' := tk) (ch := [z, TI, TO, i1, i2]) ?_ hf⟩
    intro c o hb q
    simp only [List.mem_cons, List.not_mem_nil, or_false, not_or] at hb
    exact hk c o hb.1 hb.2.2.1 hb.2.2.2.1 hb.2.2.2.2 q
  self := fun A i s Q E st h => wpAny_pyIter_zip st.1 h
def iZipN (K : PySem.W.Frag) (ta : TA) : TI := fun σ H R => ta σ H fun vs H1 => ∃ a b xs ys, vs = [.ref a, .ref b] ∧ SqT K H1 a xs ∧ SqL K H1 b ys ∧ R (ItzN K a b) H1
theorem pi_zipN {X : Cx} {e e2 : Expr} {ta : TA} {p pos tpos : Pos} {elts : List Expr} {kk : Nat} (hg : Gl X "zip") (hm : X.mg "zip" = none) (ha : PA X [e, e2] ta)
    (hs : starEach [e, e2] X.env = (false, eval e X.env) :: starEach [e2] X.env := by rfl) (hpl : (backTo pos (starEach [e2] X.env)).any (·.1) = false := by rfl) :
    PI X (.Tuple elts kk tpos) (.Call (.Name "zip" p) [e, e2] [] pos) (iZipN X.K ta) := by
  constructor
  intro pins s σ H R I h
  refine Call_ (ld_blt I hg hm PyProof.Rows.boot_zip (PyProof.Rows.callWith_type1 (thn (ha.run pos pins s σ H _ I h) ?_) hs hpl))
  rintro us s1 ⟨vs, H1, I1, r1, a, b, xs, ys, rfl, hqx, hqy, q⟩
  obtain ⟨u, v, rfl, rfl, rfl⟩ := vals2 r1
  obtain ⟨its, rv, p1, _⟩ := I1.tuple hqx
  obtain ⟨its2, rv2, p2, _⟩ := I1.list hqy
  refine call_zipN (show s1.heap.IsTuple a its.toArray from p1) p2.isList fun h' hz hTI hTO h1 h2 hk => wpAny_pyIter_zip hz ?_
  have I2 : Inv X pins σ H1 { s1 with heap := h' } := I1.kept (t' := s1.toks) hk
  refine ⟨s1.heap.objs.size + 4, [s1.heap.objs.size + 4, s1.heap.objs.size + 2, s1.heap.objs.size + 3, s1.heap.objs.size, s1.heap.objs.size + 1], _, _, H1, rfl, I2,
    turn_zipN (PySem.W.ktu_apart s1.heap.objs.size a b (tupLt p1) p2.lt), ⟨hz, hTI, ⟨_, _, hTO⟩, h1, h2⟩, ?_, q⟩
  intro c hcm
  have hle : s1.heap.objs.size ≤ c := by
    simp only [List.mem_cons, List.not_mem_nil, or_false] at hcm
    rcases hcm with rfl | rfl | rfl | rfl | rfl <;> omega
  exact I1.fpOk hle (I1.hok.fresh hle)
theorem walk_zipN {K : PySem.W.Frag} {a b : Addr} {xs ys : List V} {n : Nat} (hn : n = min xs.length ys.length) :
    Walk (ItzN K a b) n (fun H => SqT K H a xs ∧ SqL K H b ys) (YPair (fun i => xs[i]?) (fun i => ys[i]?)) := by
  subst hn
  constructor
  · rintro i H hi ⟨q1, q2⟩
    have h1 : i < xs.length := by omega
    have h2 : i < ys.length := by omega
    exact ⟨xs, ys, xs[i], ys[i], q1, q2, by simp [h1], by simp [h2]⟩
  · rintro H ⟨q1, q2⟩
    exact ⟨xs, ys, q1, q2, rfl⟩
  · rintro i H v H' _ ⟨q1, q2⟩ ⟨T, x, z, h1, h2, h3, h4, h5⟩
    exact ⟨T, x, z, h1, h2, h3, h4 xs q1, h5 ys q2⟩
end Pv

namespace Pv
/-! cuts: who moves out of a set of posts, and into it -/
abbrev Rt := Option (Int × Option Int)
abbrev Ed := Rt × Int × Int
def inb (m : Int → Bool) : Option Int → Bool
  | none => false
  | some y => m y
def sg (m : Int → Bool) : Rt → Int
  | none => 0
  | some r => (if inb m r.2 = true then 1 else 0) - (if m r.1 = true then 1 else 0)
def wE (m : Int → Bool) (e : Ed) : Int := if sg m e.1 < 0 then e.2.2 else if 0 < sg m e.1 then -e.2.1 else 0
def spareS (N : List Int) (sp : Int → Int) (m : Int → Bool) : Int := ((N.filter m).map sp).sum
def FS (N : List Int) (sp : Int → Int) (m : Int → Bool) (es : List Ed) : Int := spareS N sp m + (es.map (wE m)).sum
def lP (p : Int) (e : Ed) : Int := match e.1 with | some r => if r.1 = p then e.2.1 else 0 | none => 0
def PS (sp : Int → Int) (p : Int) (es : List Ed) : Int := - sp p - (es.map (lP p)).sum
def lZ (e : Ed) : Int := match e.1 with | none => e.2.1 | some _ => 0
def ZS (es : List Ed) : Int := -(es.map lZ).sum
structure Feas (N : List Int) (sp : Int → Int) (C : List Int) (es : List Ed) : Prop where
  set : ∀ m, 0 ≤ FS N sp m es
  st : ∀ p ∈ C, 0 ≤ PS sp p es
  z : 0 ≤ ZS es
structure Wf (N : List Int) (C : List Int) (es : List Ed) : Prop where
  nd : N.Nodup
  sub : ∀ p ∈ C, p ∈ N
  a : ∀ e ∈ es, ∀ r, e.1 = some r → r.1 ∈ C
  b : ∀ e ∈ es, ∀ r, e.1 = some r → ∀ y, r.2 = some y → y ∉ C
  lu : ∀ e ∈ es, e.2.1 ≤ e.2.2
theorem sum_set {α : Type} (f : α → Int) : ∀ (l : List α) (j : Nat) (x y : α), l[j]? = some x → ((l.set j y).map f).sum = (l.map f).sum - f x + f y
  | [], j, x, y, h => by simp at h
  | z :: l, 0, x, y, h => by simp at h; subst h; simp; omega
  | z :: l, j + 1, x, y, h => by
    have := sum_set f l j x y (by simpa using h)
    simp only [List.set_cons_succ, List.map_cons, List.sum_cons, this]
    omega
theorem spareS_mod (N : List Int) (sp : Int → Int) (m n : Int → Bool) : spareS N sp m + spareS N sp n = spareS N sp (fun q => m q && n q) + spareS N sp (fun q => m q || n q) := by
  unfold spareS
  induction N with
  | nil => rfl
  | cons p N ih =>
    by_cases h1 : m p = true <;> by_cases h2 : n p = true <;> simp [h1, h2] <;> omega
theorem inb_and (m n : Int → Bool) (b : Option Int) : inb (fun q => m q && n q) b = (inb m b && inb n b) := by cases b <;> rfl
theorem inb_or (m n : Int → Bool) (b : Option Int) : inb (fun q => m q || n q) b = (inb m b || inb n b) := by cases b <;> rfl
def bon (m n : Int → Bool) (e : Ed) : Int := if sg m e.1 < 0 ∧ 0 < sg n e.1 then e.2.2 - e.2.1 else 0
def wB (i a : Bool) (l u : Int) : Int := if i = false ∧ a = true then u else if i = true ∧ a = false then -l else 0
theorem sg_neg (m : Int → Bool) (r : Int × Option Int) : sg m (some r) < 0 ↔ inb m r.2 = false ∧ m r.1 = true := by
  cases h1 : inb m r.2 <;> cases h2 : m r.1 <;> simp [sg, h1, h2]
theorem sg_pos (m : Int → Bool) (r : Int × Option Int) : 0 < sg m (some r) ↔ inb m r.2 = true ∧ m r.1 = false := by
  cases h1 : inb m r.2 <;> cases h2 : m r.1 <;> simp [sg, h1, h2]
theorem wE_some (m : Int → Bool) (r : Int × Option Int) (l u : Int) : wE m (some r, l, u) = wB (inb m r.2) (m r.1) l u := by
  cases h1 : inb m r.2 <;> cases h2 : m r.1 <;> simp [wE, sg, wB, h1, h2]
theorem w_sub (m n : Int → Bool) (e : Ed) (h : e.2.1 ≤ e.2.2) : wE (fun q => m q && n q) e + wE (fun q => m q || n q) e + bon m n e ≤ wE m e + wE n e := by
  obtain ⟨r, l, u⟩ := e
  cases r with
  | none => simp [wE, sg, bon]
  | some r =>
    simp only [wE_some, bon, inb_and, inb_or, sg_neg, sg_pos] at h ⊢
    cases h1 : m r.1 <;> cases h2 : n r.1 <;> cases h3 : inb m r.2 <;> cases h4 : inb n r.2 <;> simp [wB] <;> omega
theorem bon_nn (m n : Int → Bool) (e : Ed) (h : e.2.1 ≤ e.2.2) : 0 ≤ bon m n e := by unfold bon; split <;> omega
theorem sum_nn : ∀ {l : List Int}, (∀ x ∈ l, 0 ≤ x) → 0 ≤ l.sum
  | [], _ => by simp
  | x :: l, h => by
    have h1 := h x (by simp)
    have h2 := sum_nn (l := l) fun y hy => h y (by simp [hy])
    simp only [List.sum_cons]; omega
theorem sum_ge {l : List Int} (h : ∀ x ∈ l, 0 ≤ x) {y : Int} (hy : y ∈ l) : y ≤ l.sum := by
  induction l with
  | nil => cases hy
  | cons x l ih =>
    have h1 := h x (by simp)
    have h2 := sum_nn (l := l) fun y hy => h y (by simp [hy])
    simp only [List.sum_cons]
    rcases List.mem_cons.mp hy with rfl | hy
    · omega
    · have := ih (fun x hx => h x (by simp [hx])) hy; omega
theorem F_sub (N : List Int) (sp : Int → Int) (m n : Int → Bool) {es : List Ed} (h : ∀ e ∈ es, e.2.1 ≤ e.2.2) : FS N sp (fun q => m q && n q) es + FS N sp (fun q => m q || n q) es + (es.map (bon m n)).sum ≤ FS N sp m es + FS N sp n es := by
  have h1 := spareS_mod N sp m n
  have h2 : (es.map (wE (fun q => m q && n q))).sum + (es.map (wE (fun q => m q || n q))).sum + (es.map (bon m n)).sum ≤ (es.map (wE m)).sum + (es.map (wE n)).sum := by
    clear h1
    induction es with
    | nil => simp
    | cons e es ih =>
      have a := w_sub m n e (h e (by simp))
      have b := ih fun e he => h e (by simp [he])
      simp only [List.map_cons, List.sum_cons]
      omega
  unfold FS
  omega
/-- a cut that a group leaves, and one that it comes into, have room for it together -/
theorem cross {N : List Int} {sp : Int → Int} {C : List Int} {es : List Ed} (W : Wf N C es) (Fe : Feas N sp C es) {e : Ed} (he : e ∈ es) {m n : Int → Bool} (hm : sg m e.1 < 0) (hn : 0 < sg n e.1) : e.2.2 - e.2.1 ≤ FS N sp m es + FS N sp n es := by
  have h1 := F_sub N sp m n W.lu
  have h2 := Fe.set (fun q => m q && n q)
  have h3 := Fe.set (fun q => m q || n q)
  have h4 : bon m n e ≤ (es.map (bon m n)).sum := sum_ge (fun x hx => by
    obtain ⟨e', he', rfl⟩ := List.mem_map.mp hx
    exact bon_nn m n e' (W.lu e' he')) (List.mem_map_of_mem he)
  have h5 : bon m n e = e.2.2 - e.2.1 := by unfold bon; rw [if_pos ⟨hm, hn⟩]
  omega
theorem spareS_out {N : List Int} (nd : N.Nodup) (sp : Int → Int) {m : Int → Bool} {p : Int} (hp : p ∈ N) (hm : m p = true) : spareS N sp m = spareS N sp (fun q => m q && !decide (q = p)) + sp p := by
  unfold spareS
  induction N with
  | nil => cases hp
  | cons x N ih =>
    have nd' := List.nodup_cons.mp nd
    by_cases hx : x = p
    · subst hx
      have : N.filter (fun q => m q && !decide (q = x)) = N.filter m := by
        apply List.filter_congr
        intro q hq
        have : q ≠ x := fun z => nd'.1 (z ▸ hq)
        simp [this]
      rw [List.filter_cons_of_pos hm, List.filter_cons_of_neg (by simp), this]
      simp; omega
    · have hp' : p ∈ N := by rcases List.mem_cons.mp hp with h | h; exact absurd h.symm hx; exact h
      have := ih nd'.2 hp'
      by_cases h : m x = true
      · rw [List.filter_cons_of_pos h, List.filter_cons_of_pos (by simp [h, hx])]
        simp only [List.map_cons, List.sum_cons]; omega
      · rw [List.filter_cons_of_neg h, List.filter_cons_of_neg (by simp [h])]
        exact this
def bonP (m : Int → Bool) (p : Int) (e : Ed) : Int := match e.1 with | some r => if r.1 = p ∧ inb m r.2 = false then e.2.2 - e.2.1 else 0 | none => 0
/-- a cut that a group leaves, and the cut of its first post -/
theorem crossP {N : List Int} {sp : Int → Int} {C : List Int} {es : List Ed} (W : Wf N C es) (Fe : Feas N sp C es) {e : Ed} (he : e ∈ es) {m : Int → Bool} {r : Int × Option Int} (hr : e.1 = some r) (hm : sg m e.1 < 0) : e.2.2 - e.2.1 ≤ FS N sp m es + PS sp r.1 es := by
  have hrC := W.a e he r hr
  have hmp : m r.1 = true ∧ inb m r.2 = false := by
    rw [hr, sg_neg] at hm
    exact ⟨hm.2, hm.1⟩
  have h1 := spareS_out W.nd sp (W.sub _ hrC) hmp.1
  have key : ∀ e ∈ es, wE m e - lP r.1 e = wE (fun q => m q && !decide (q = r.1)) e + bonP m r.1 e := by
    intro e' he'
    obtain ⟨r', l, u⟩ := e'
    cases r' with
    | none => simp [wE, sg, lP, bonP]
    | some r' =>
      obtain ⟨a, b⟩ := r'
      have hb : inb (fun q => m q && !decide (q = r.1)) b = inb m b := by
        cases b with
        | none => rfl
        | some y =>
          have hy := W.b _ he' (a, some y) rfl y rfl
          have : y ≠ r.1 := fun z => hy (z ▸ hrC)
          simp [inb, this]
      simp only [wE_some, lP, bonP, hb]
      by_cases ha : a = r.1
      · subst ha
        cases h9 : inb m b <;> simp [wB, hmp.1]
      · simp [ha]
  have h2 : (es.map (wE m)).sum - (es.map (lP r.1)).sum = (es.map (wE (fun q => m q && !decide (q = r.1)))).sum + (es.map (bonP m r.1)).sum := by
    clear he Fe W
    induction es with
    | nil => simp
    | cons e' es ih =>
      have a := key e' (by simp)
      have b := ih fun e he => key e (by simp [he])
      simp only [List.map_cons, List.sum_cons]
      omega
  have h3 := Fe.set (fun q => m q && !decide (q = r.1))
  have h4 : bonP m r.1 e ≤ (es.map (bonP m r.1)).sum := sum_ge (fun x hx => by
    obtain ⟨e', he', rfl⟩ := List.mem_map.mp hx
    have := W.lu e' he'
    unfold bonP
    split
    · split <;> omega
    · omega) (List.mem_map_of_mem he)
  have h5 : bonP m r.1 e = e.2.2 - e.2.1 := by unfold bonP; rw [hr]; simp [hmp.2]
  unfold FS at h3 ⊢
  unfold PS
  omega
/-! one group is given its integer -/
theorem F_set {N : List Int} {sp : Int → Int} {es : List Ed} {j : Nat} {e e' : Ed} (he : es[j]? = some e) (m : Int → Bool) : FS N sp m (es.set j e') = FS N sp m es - wE m e + wE m e' := by
  unfold FS; rw [sum_set (wE m) es j e e' he]; omega
theorem P_set {sp : Int → Int} {es : List Ed} {j : Nat} {e e' : Ed} (he : es[j]? = some e) (p : Int) : PS sp p (es.set j e') = PS sp p es + lP p e - lP p e' := by
  unfold PS; rw [sum_set (lP p) es j e e' he]; omega
theorem Z_set {es : List Ed} {j : Nat} {e e' : Ed} (he : es[j]? = some e) : ZS (es.set j e') = ZS es + lZ e - lZ e' := by
  unfold ZS; rw [sum_set lZ es j e e' he]; omega
/-- which integers are open to a group -/
structure Opn (N : List Int) (sp : Int → Int) (es : List Ed) (e : Ed) (x : Int) : Prop where
  lo : ∀ m, sg m e.1 < 0 → e.2.2 - FS N sp m es ≤ x
  hi : ∀ m, 0 < sg m e.1 → x ≤ e.2.1 + FS N sp m es
  p : ∀ r, e.1 = some r → x ≤ e.2.1 + PS sp r.1 es
  z : e.1 = none → x ≤ e.2.1 + ZS es
theorem opn_iff {N : List Int} {sp : Int → Int} {C : List Int} {es : List Ed} (W : Wf N C es) (Fe : Feas N sp C es) {j : Nat} {e : Ed} (he : es[j]? = some e) (x : Int) : Feas N sp C (es.set j (e.1, x, x)) ↔ Opn N sp es e x := by
  constructor
  · intro h
    refine ⟨fun m hm => ?_, fun m hm => ?_, fun r hr => ?_, fun hn => ?_⟩
    · have := h.set m
      rw [F_set he] at this
      unfold wE at this
      simp only [hm, if_true] at this
      omega
    · have := h.set m
      rw [F_set he] at this
      unfold wE at this
      have hn : ¬ sg m e.1 < 0 := by omega
      simp only [hm, hn, if_true, if_false] at this
      omega
    · have := h.st r.1 (W.a e (List.mem_of_getElem? he) r hr)
      rw [P_set he] at this
      unfold lP at this
      simp only [hr, if_true] at this
      omega
    · have := h.z
      rw [Z_set he] at this
      unfold lZ at this
      simp only [hn] at this
      omega
  · intro h
    refine ⟨fun m => ?_, fun p hp => ?_, ?_⟩
    · rw [F_set he]
      have := Fe.set m
      by_cases h1 : sg m e.1 < 0
      · have := h.lo m h1
        unfold wE
        simp only [h1, if_true]; omega
      · by_cases h2 : 0 < sg m e.1
        · have := h.hi m h2
          unfold wE
          simp only [h1, h2, if_true, if_false]; omega
        · unfold wE
          simp only [h1, h2, if_false]; omega
    · rw [P_set he]
      have := Fe.st p hp
      unfold lP
      cases hr : e.1 with
      | none => simp only; omega
      | some r =>
        simp only
        by_cases h1 : r.1 = p
        · have := h.p r hr
          simp only [h1, if_true] at this ⊢
          omega
        · simp only [h1, if_false]; omega
    · rw [Z_set he]
      have := Fe.z
      unfold lZ
      cases hr : e.1 with
      | none => have := h.z hr; simp only; omega
      | some r => simp only; omega
/-- the least that is asked from below is open -/
theorem opn_least {N : List Int} {sp : Int → Int} {C : List Int} {es : List Ed} (W : Wf N C es) (Fe : Feas N sp C es) {e : Ed} (he : e ∈ es) {x : Int} (lo : ∀ m, sg m e.1 < 0 → e.2.2 - FS N sp m es ≤ x) (at_ : x = e.2.1 ∨ ∃ m, sg m e.1 < 0 ∧ x = e.2.2 - FS N sp m es) : Opn N sp es e x := by
  refine ⟨lo, fun m hm => ?_, fun r hr => ?_, fun hn => ?_⟩
  · rcases at_ with rfl | ⟨m', hm', rfl⟩
    · have := Fe.set m; omega
    · have := cross W Fe he hm' hm; omega
  · rcases at_ with rfl | ⟨m', hm', rfl⟩
    · have := Fe.st _ (W.a e he r hr); omega
    · have := crossP W Fe he hr hm'; omega
  · rcases at_ with rfl | ⟨m', hm', rfl⟩
    · have := Fe.z; omega
    · rw [hn] at hm'; simp [sg] at hm'
/-- the greatest that is let through from above is open -/
theorem opn_most {N : List Int} {sp : Int → Int} {C : List Int} {es : List Ed} (W : Wf N C es) (Fe : Feas N sp C es) {e : Ed} (he : e ∈ es) {x : Int} (hi : ∀ m, 0 < sg m e.1 → x ≤ e.2.1 + FS N sp m es) (p : ∀ r, e.1 = some r → x ≤ e.2.1 + PS sp r.1 es) (z : e.1 = none → x ≤ e.2.1 + ZS es)
    (at_ : x = e.2.2 ∨ (∃ m, 0 < sg m e.1 ∧ x = e.2.1 + FS N sp m es) ∨ (∃ r, e.1 = some r ∧ x = e.2.1 + PS sp r.1 es) ∨ (e.1 = none ∧ x = e.2.1 + ZS es)) : Opn N sp es e x := by
  refine ⟨fun m hm => ?_, hi, p, z⟩
  rcases at_ with rfl | ⟨m', hm', rfl⟩ | ⟨r, hr, rfl⟩ | ⟨hn, rfl⟩
  · have := Fe.set m; omega
  · have := cross W Fe he hm hm'; omega
  · have := crossP W Fe he hr hm; omega
  · rw [hn] at hm; simp [sg] at hm
theorem Wf.set {N : List Int} {C : List Int} {es : List Ed} (W : Wf N C es) {j : Nat} {e : Ed} (he : es[j]? = some e) (x : Int) : Wf N C (es.set j (e.1, x, x)) := by
  have hm := List.mem_of_getElem? he
  refine ⟨W.nd, W.sub, fun e' h' r hr => ?_, fun e' h' r hr => ?_, fun e' h' => ?_⟩
  · rcases List.mem_or_eq_of_mem_set h' with h | h
    · exact W.a e' h r hr
    · subst h; exact W.a e hm r hr
  · rcases List.mem_or_eq_of_mem_set h' with h | h
    · exact W.b e' h r hr
    · subst h; exact W.b e hm r hr
  · rcases List.mem_or_eq_of_mem_set h' with h | h
    · exact W.lu e' h
    · subst h; exact Int.le_refl _
/-- there is one -/
theorem opn_ex {N : List Int} {sp : Int → Int} {C : List Int} {es : List Ed} (W : Wf N C es) (Fe : Feas N sp C es) {e : Ed} (he : e ∈ es) : ∃ x, e.2.1 ≤ x ∧ x ≤ e.2.2 ∧ Opn N sp es e x := by
  have hlu := W.lu e he
  -- the least natural number k with: l + k is at least all that is asked
  have hex : ∃ k : Nat, ∀ m, sg m e.1 < 0 → e.2.2 - FS N sp m es ≤ e.2.1 + k := ⟨(e.2.2 - e.2.1).toNat, fun m hm => by have := Fe.set m; omega⟩
  have hmin : ∀ n : Nat, (∀ m, sg m e.1 < 0 → e.2.2 - FS N sp m es ≤ e.2.1 + n) → ∃ k : Nat, k ≤ n ∧ (∀ m, sg m e.1 < 0 → e.2.2 - FS N sp m es ≤ e.2.1 + k) ∧ (k = 0 ∨ ∃ m, sg m e.1 < 0 ∧ e.2.1 + k = e.2.2 - FS N sp m es) := by
    intro n
    induction n with
    | zero => intro h; exact ⟨0, Nat.le_refl _, h, .inl rfl⟩
    | succ n ih =>
      intro h
      by_cases h' : ∀ m, sg m e.1 < 0 → e.2.2 - FS N sp m es ≤ e.2.1 + n
      · obtain ⟨k, h1, h2⟩ := ih h'
        exact ⟨k, by omega, h2⟩
      · refine ⟨n + 1, Nat.le_refl _, h, .inr ?_⟩
        have ⟨m, hm⟩ := Classical.not_forall.mp h'
        have ⟨h1, h2⟩ := Classical.not_imp.mp hm
        refine ⟨m, h1, ?_⟩
        have := h m h1
        omega
  obtain ⟨k, hk, hlo, hat⟩ := hmin (e.2.2 - e.2.1).toNat fun m hm => by have := Fe.set m; omega
  refine ⟨e.2.1 + k, by omega, by omega, opn_least W Fe he hlo ?_⟩
  rcases hat with rfl | ⟨m, h1, h2⟩
  · left; simp
  · right; exact ⟨m, h1, h2⟩
/-- all groups can be given integers -/
theorem complete_on {N : List Int} {sp : Int → Int} {C : List Int} : ∀ (rest done : List Ed), Wf N C (done ++ rest) → Feas N sp C (done ++ rest) → ∃ xs : List Int, xs.length = rest.length ∧ (∀ (j : Nat) (e : Ed) (x : Int), rest[j]? = some e → xs[j]? = some x → e.2.1 ≤ x ∧ x ≤ e.2.2) ∧ Feas N sp C (done ++ List.zipWith (fun (e : Ed) x => ((e.1, x, x) : Ed)) rest xs)
  | [], done, _, Fe => ⟨[], rfl, fun j e x h => by simp at h, by simpa using Fe⟩
  | e :: rest, done, W, Fe => by
    have hat : (done ++ e :: rest)[done.length]? = some e := by simp
    obtain ⟨x, h1, h2, h3⟩ := opn_ex W Fe (List.mem_of_getElem? hat)
    have hset : (done ++ e :: rest).set done.length (e.1, x, x) = (done ++ [((e.1, x, x) : Ed)]) ++ rest := by simp
    have W' := W.set hat x
    have F' := (opn_iff W Fe hat x).mpr h3
    rw [hset] at W' F'
    obtain ⟨xs, lx, bx, Fx⟩ := complete_on rest (done ++ [((e.1, x, x) : Ed)]) W' F'
    refine ⟨x :: xs, by simp [lx], fun j f y hf hy => ?_, by simpa using Fx⟩
    cases j with
    | zero => simp at hf hy; subst hf; subst hy; exact ⟨h1, h2⟩
    | succ j => exact bx j f y (by simpa using hf) (by simpa using hy)
theorem complete {N : List Int} {sp : Int → Int} {C : List Int} {es : List Ed} (W : Wf N C es) (Fe : Feas N sp C es) : ∃ xs : List Int, xs.length = es.length ∧ (∀ (j : Nat) (e : Ed) (x : Int), es[j]? = some e → xs[j]? = some x → e.2.1 ≤ x ∧ x ≤ e.2.2) ∧ Feas N sp C (List.zipWith (fun (e : Ed) x => ((e.1, x, x) : Ed)) es xs) := by
  obtain ⟨xs, h1, h2, h3⟩ := complete_on es [] (by simpa using W) (by simpa using Fe)
  exact ⟨xs, h1, h2, by simpa using h3⟩
/-- what is fixed is open before -/
theorem feas_loose {N : List Int} {sp : Int → Int} {C : List Int} : ∀ {es fs : List Ed}, Feas N sp C fs → es.length = fs.length → (∀ (j : Nat) (e f : Ed), es[j]? = some e → fs[j]? = some f → e.1 = f.1 ∧ e.2.1 ≤ f.2.1 ∧ f.2.2 ≤ e.2.2) → Feas N sp C es := by
  intro es fs Fe hl h
  have key : ∀ (g : Ed → Int), (∀ e f : Ed, e.1 = f.1 → e.2.1 ≤ f.2.1 → f.2.2 ≤ e.2.2 → g f ≤ g e) → ∀ (es fs : List Ed), es.length = fs.length → (∀ (j : Nat) (e f : Ed), es[j]? = some e → fs[j]? = some f → e.1 = f.1 ∧ e.2.1 ≤ f.2.1 ∧ f.2.2 ≤ e.2.2) → (fs.map g).sum ≤ (es.map g).sum := by
    intro g hg es
    induction es with
    | nil => intro fs hl _; cases fs with | nil => simp | cons _ _ => simp at hl
    | cons e es ih =>
      intro fs hl h
      cases fs with
      | nil => simp at hl
      | cons f fs =>
        have h0 := h 0 e f rfl rfl
        have h1 := hg e f h0.1 h0.2.1 h0.2.2
        have h2 := ih fs (by simpa using hl) fun j e f he hf => h (j + 1) e f (by simpa using he) (by simpa using hf)
        simp only [List.map_cons, List.sum_cons]; omega
  refine ⟨fun m => ?_, fun p hp => ?_, ?_⟩
  · have h1 := Fe.set m
    have h2 := key (wE m) (fun e f a b c => by
      unfold wE
      rw [a]
      split
      · omega
      · split <;> omega) es fs hl h
    unfold FS at h1 ⊢; omega
  · have h1 := Fe.st p hp
    have h2 := key (fun e => - lP p e) (fun e f a b c => by
      unfold lP
      rw [a]
      split
      · split <;> omega
      · omega) es fs hl h
    have h3 : ∀ l : List Ed, (l.map (fun e => - lP p e)).sum = - (l.map (lP p)).sum := by
      intro l; induction l with
      | nil => simp
      | cons x l ih => simp only [List.map_cons, List.sum_cons, ih]; omega
    rw [h3, h3] at h2
    unfold PS at h1 ⊢; omega
  · have h1 := Fe.z
    have h2 := key (fun e => - lZ e) (fun e f a b c => by
      unfold lZ
      rw [a]
      split
      · omega
      · omega) es fs hl h
    have h3 : ∀ l : List Ed, (l.map (fun e => - lZ e)).sum = - (l.map lZ).sum := by
      intro l; induction l with
      | nil => simp
      | cons x l ih => simp only [List.map_cons, List.sum_cons, ih]; omega
    rw [h3, h3] at h2
    unfold ZS at h1 ⊢; omega
end Pv

namespace Pv
/-! the cuts of an instance -/
def spOf (cs : List Int) (gs : List Gp) (p : Int) : Int := cs.getD p.toNat 0 - (rDem cs gs).getD p.toNat 0
def nzP (cs : List Int) (gs : List Gp) : List Int := ((List.range cs.length).map (fun (k : Nat) => (k : Int))).filter fun p => !decide (spOf cs gs p = 0)
def esx (cs : List Int) (gs : List Gp) (xs : List Int) : List Ed := List.zipWith (fun g x => ((routeOf cs gs g, x, x) : Ed)) gs xs
def es0 (cs : List Int) (gs : List Gp) : List Ed := gs.map fun g => ((routeOf cs gs g, 0, g.2) : Ed)
theorem nz_nodup (cs : List Int) (gs : List Gp) : (nzP cs gs).Nodup := by
  refine List.Nodup.sublist (List.filter_sublist ..) ?_
  rw [List.nodup_iff_pairwise_ne, List.pairwise_map]
  exact List.Pairwise.imp (fun h => by omega) (List.nodup_iff_pairwise_ne.mp List.nodup_range)
theorem nz_mem {cs : List Int} {gs : List Gp} {p : Int} : p ∈ nzP cs gs ↔ (0 ≤ p ∧ p < (cs.length : Int)) ∧ spOf cs gs p ≠ 0 := by
  unfold nzP
  rw [List.mem_filter, List.mem_map]
  constructor
  · rintro ⟨⟨k, hk, rfl⟩, h⟩
    have := List.mem_range.mp hk
    exact ⟨⟨by omega, by omega⟩, by simpa using h⟩
  · rintro ⟨⟨h1, h2⟩, h⟩
    exact ⟨⟨p.toNat, List.mem_range.mpr (by omega), by omega⟩, by simpa using h⟩
theorem sel_mem {f : Int → Bool} {ls : List Int} {n : Nat} {p : Int} : p ∈ sel f ls n ↔ (0 ≤ p ∧ p < (n : Int)) ∧ f (ls.getD p.toNat 0) = true := by
  unfold sel
  rw [List.mem_map]
  constructor
  · rintro ⟨k, hk, rfl⟩
    have := List.mem_filter.mp hk
    have h2 := List.mem_range.mp this.1
    exact ⟨⟨by omega, by omega⟩, by simpa using this.2⟩
  · rintro ⟨⟨h1, h2⟩, h⟩
    exact ⟨p.toNat, List.mem_filter.mpr ⟨List.mem_range.mpr (by omega), h⟩, by omega⟩
theorem cro_mem {cs : List Int} {gs : List Gp} {p : Int} : p ∈ rCro cs gs ↔ (0 ≤ p ∧ p < (cs.length : Int)) ∧ spOf cs gs p < 0 := by
  unfold rCro
  rw [sel_mem]
  constructor
  · rintro ⟨⟨h1, h2⟩, h⟩
    refine ⟨⟨h1, h2⟩, ?_⟩
    have a : p.toNat < cs.length := by omega
    unfold rExc at h
    rw [exc_at a (by rw [rDem_len]; exact a)] at h
    unfold spOf
    rw [List.getD_eq_getElem?_getD, List.getD_eq_getElem?_getD, List.getElem?_eq_getElem a, List.getElem?_eq_getElem (show p.toNat < (rDem cs gs).length by rw [rDem_len]; exact a)]
    simp only [Option.getD_some]
    have h := of_decide_eq_true h
    unfold mx at h
    split at h <;> omega
  · rintro ⟨⟨h1, h2⟩, h⟩
    refine ⟨⟨h1, h2⟩, ?_⟩
    have a : p.toNat < cs.length := by omega
    unfold rExc
    rw [exc_at a (by rw [rDem_len]; exact a)]
    unfold spOf at h
    rw [List.getD_eq_getElem?_getD, List.getD_eq_getElem?_getD, List.getElem?_eq_getElem a, List.getElem?_eq_getElem (show p.toNat < (rDem cs gs).length by rw [rDem_len]; exact a)] at h
    simp only [Option.getD_some] at h
    apply decide_eq_true
    unfold mx
    split <;> omega
theorem cla_mem {cs : List Int} {gs : List Gp} {p : Int} (h : 0 ≤ p ∧ p < (cs.length : Int)) : (rCla cs gs).contains p = decide (spOf cs gs p ≤ 0) := by
  have a : p.toNat < cs.length := by omega
  have e : p = ((p.toNat : Nat) : Int) := by omega
  rw [e, cla_has a]
  unfold spOf
  rw [Int.toNat_natCast, List.getD_eq_getElem?_getD, List.getD_eq_getElem?_getD, List.getElem?_eq_getElem a, List.getElem?_eq_getElem (show p.toNat < (rDem cs gs).length by rw [rDem_len]; exact a)]
  simp only [Option.getD_some, decide_eq_decide]
  omega
theorem res_free {ps cl : List Int} {y : Int} (h : ps[resOf ps cl]? = some y) : cl.contains y = false := by
  unfold resOf at h
  cases e : (List.range' 1 (ps.length - 1)).find? (isFree ps cl) with
  | none => rw [e] at h; simp at h
  | some k =>
    rw [e] at h
    simp only [Option.getD_some] at h
    have := List.find?_some e
    unfold isFree at this
    rw [List.getD_eq_getElem?_getD, h] at this
    simpa using this
theorem route_wf {cs : List Int} {gs : List Gp} (ok : InsOk cs gs) {g : Gp} (hg : g ∈ gs) {r : Int × Option Int} (h : routeOf cs gs g = some r) : r.1 ∈ rCro cs gs ∧ ∀ y, r.2 = some y → 0 < spOf cs gs y ∧ 0 ≤ y ∧ y < (cs.length : Int) := by
  have hin := route_in ok hg h
  unfold routeOf at h
  cases e : g.1 with
  | nil => rw [e] at h; cases h
  | cons p ps =>
    rw [e] at h
    simp only at h
    split at h
    case isFalse => cases h
    case isTrue hc =>
      cases h
      refine ⟨by simpa using hc, fun y hy => ?_⟩
      have hy2 := hin.2 y hy
      simp only at hy
      have := res_free hy
      rw [cla_mem hy2] at this
      have := of_decide_eq_false this
      exact ⟨by omega, hy2.1, hy2.2⟩
theorem wf_of {cs : List Int} {gs : List Gp} (ok : InsOk cs gs) {es : List Ed} (h : ∀ e ∈ es, e.2.1 ≤ e.2.2 ∧ ∃ g ∈ gs, e.1 = routeOf cs gs g) : Wf (nzP cs gs) (rCro cs gs) es := by
  refine ⟨nz_nodup cs gs, fun p hp => ?_, fun e he r hr => ?_, fun e he r hr y hy hc => ?_, fun e he => (h e he).1⟩
  · have := cro_mem.mp hp
    exact nz_mem.mpr ⟨this.1, by omega⟩
  · obtain ⟨_, g, hg, e1⟩ := h e he
    exact (route_wf ok hg (e1 ▸ hr)).1
  · obtain ⟨_, g, hg, e1⟩ := h e he
    have h1 := (route_wf ok hg (e1 ▸ hr)).2 y hy
    have h2 := cro_mem.mp hc
    omega
theorem wf_es0 {cs : List Int} {gs : List Gp} (ok : InsOk cs gs) : Wf (nzP cs gs) (rCro cs gs) (es0 cs gs) := by
  refine wf_of ok fun e he => ?_
  obtain ⟨g, hg, rfl⟩ := List.mem_map.mp he
  exact ⟨by have := (ok.gp g hg).2.2.1; simp only; omega, g, hg, rfl⟩
/-! what is moved, by posts -/
def movP (p : Int) (z : Rt × Int) : Int := match z.1 with | some r => if r.1 = p then z.2 else 0 | none => 0
def takP (p : Int) (z : Rt × Int) : Int := match z.1 with | some r => if r.2 = some p then z.2 else 0 | none => 0
theorem addAt_get {ls : List Int} {p q : Nat} {x : Int} (h : p < ls.length) : (addAt ls (p : Int) x).getD q 0 = ls.getD q 0 + if p = q then x else 0 := by
  unfold addAt
  rw [Int.toNat_natCast, List.getD_eq_getElem?_getD, List.getD_eq_getElem?_getD, List.getElem?_set]
  by_cases e : p = q
  · subst e; simp [h]
  · simp [e]
theorem mv_get {n : Nat} {zs : List (Rt × Int)} (h : ∀ z ∈ zs, ∀ r, z.1 = some r → (0 ≤ r.1 ∧ r.1 < (n : Int)) ∧ ∀ y, r.2 = some y → 0 ≤ y ∧ y < (n : Int)) (q : Nat) : (mvOf n zs).1.getD q 0 = (zs.map (movP q)).sum ∧ (mvOf n zs).2.getD q 0 = (zs.map (takP q)).sum := by
  have key : ∀ (zs : List (Rt × Int)) (st : List Int × List Int), st.1.length = n → st.2.length = n → (∀ z ∈ zs, ∀ r, z.1 = some r → (0 ≤ r.1 ∧ r.1 < (n : Int)) ∧ ∀ y, r.2 = some y → 0 ≤ y ∧ y < (n : Int)) →
      (zs.foldl mvStep st).1.getD q 0 = st.1.getD q 0 + (zs.map (movP q)).sum ∧ (zs.foldl mvStep st).2.getD q 0 = st.2.getD q 0 + (zs.map (takP q)).sum := by
    intro zs
    induction zs with
    | nil => intro st _ _ _; simp
    | cons z zs ih =>
      intro st h1 h2 h
      obtain ⟨r, x⟩ := z
      have hz := h (r, x) (by simp)
      have hs : (mvStep st (r, x)).1.length = n ∧ (mvStep st (r, x)).2.length = n := by
        unfold mvStep
        cases r with
        | none => exact ⟨h1, h2⟩
        | some r =>
          refine ⟨by simp only [addAt_len]; exact h1, ?_⟩
          simp only
          cases r.2 with
          | none => exact h2
          | some y => simp only [addAt_len]; exact h2
      have := ih (mvStep st (r, x)) hs.1 hs.2 fun z hz => h z (by simp [hz])
      rw [List.foldl_cons, this.1, this.2]
      simp only [List.map_cons, List.sum_cons]
      cases r with
      | none => simp [mvStep, movP, takP]
      | some r =>
        obtain ⟨a, b⟩ := r
        obtain ⟨ha, hb⟩ := hz (a, b) rfl
        simp only at ha hb
        obtain ⟨an, rfl⟩ : ∃ an : Nat, a = an := ⟨a.toNat, by omega⟩
        constructor
        · simp only [mvStep, movP]
          rw [addAt_get (by omega)]
          by_cases e : an = q
          · simp [e]; omega
          · have : ¬ ((an : Int) = (q : Int)) := by omega
            simp [e, this]
        · simp only [mvStep, takP]
          cases b with
          | none => simp
          | some y =>
            have hy := hb y rfl
            obtain ⟨yn, rfl⟩ : ∃ yn : Nat, y = yn := ⟨y.toNat, by omega⟩
            simp only
            rw [addAt_get (by omega)]
            by_cases e : yn = q
            · simp [e]; omega
            · have : ¬ ((yn : Int) = (q : Int)) := by omega
              simp [e, this]
  have := key zs (zeros n, zeros n) (by simp [zeros]) (by simp [zeros]) h
  have z0 : (zeros n).getD q 0 = 0 := by
    unfold zeros
    rw [List.getD_eq_getElem?_getD, List.getElem?_replicate]
    split <;> rfl
  unfold mvOf
  rw [this.1, this.2]
  simp only [z0]
  omega
/-- double counting -/
theorem mov_sum {N : List Int} (nd : N.Nodup) (m : Int → Bool) : ∀ (zs : List (Rt × Int)), (∀ z ∈ zs, ∀ r, z.1 = some r → r.1 ∈ N) → ((N.filter m).map (fun p => (zs.map (movP p)).sum)).sum = (zs.map (fun z => match z.1 with | some r => if m r.1 = true then z.2 else 0 | none => 0)).sum := by
  intro zs
  induction zs with
  | nil =>
    intro _
    simp only [List.map_nil, List.sum_nil]
    induction (N.filter m) with
    | nil => rfl
    | cons _ _ ih => simp only [List.map_cons, List.sum_cons, ih]; omega
  | cons z zs ih =>
    intro h
    have e1 := ih fun z hz => h z (by simp [hz])
    have split : ∀ l : List Int, (l.map (fun p => ((z :: zs).map (movP p)).sum)).sum = (l.map (fun p => movP p z)).sum + (l.map (fun p => (zs.map (movP p)).sum)).sum := by
      intro l
      induction l with
      | nil => rfl
      | cons x l ih => simp only [List.map_cons, List.sum_cons] at ih ⊢; omega
    rw [split, e1]
    simp only [List.map_cons, List.sum_cons]
    congr 1
    obtain ⟨r, x⟩ := z
    cases r with
    | none =>
      simp only [movP]
      induction (N.filter m) with
      | nil => rfl
      | cons _ _ ih => simp only [List.map_cons, List.sum_cons, ih]; omega
    | some r =>
      have hr := h (some r, x) (by simp) r rfl
      simp only [movP]
      have one : ∀ l : List Int, l.Nodup → (l.map (fun p => if r.1 = p then x else 0)).sum = if r.1 ∈ l then x else 0 := by
        intro l
        induction l with
        | nil => intro _; rfl
        | cons y l ih =>
          intro nd
          have nd' := List.nodup_cons.mp nd
          simp only [List.map_cons, List.sum_cons, ih nd'.2, List.mem_cons]
          by_cases e : r.1 = y
          · have : r.1 ∉ l := e ▸ nd'.1
            simp [e]; rw [← e]; simp [this]
          · simp [e]
      rw [one _ (List.Nodup.sublist (List.filter_sublist ..) nd)]
      by_cases hm : m r.1 = true
      · simp [hm, hr]
      · simp [hm]
theorem tak_sum {N : List Int} (nd : N.Nodup) (m : Int → Bool) : ∀ (zs : List (Rt × Int)), (∀ z ∈ zs, ∀ r, z.1 = some r → ∀ y, r.2 = some y → y ∈ N) → ((N.filter m).map (fun p => (zs.map (takP p)).sum)).sum = (zs.map (fun z => match z.1 with | some r => if inb m r.2 = true then z.2 else 0 | none => 0)).sum := by
  intro zs
  induction zs with
  | nil =>
    intro _
    simp only [List.map_nil, List.sum_nil]
    induction (N.filter m) with
    | nil => rfl
    | cons _ _ ih => simp only [List.map_cons, List.sum_cons, ih]; omega
  | cons z zs ih =>
    intro h
    have e1 := ih fun z hz => h z (by simp [hz])
    have split : ∀ l : List Int, (l.map (fun p => ((z :: zs).map (takP p)).sum)).sum = (l.map (fun p => takP p z)).sum + (l.map (fun p => (zs.map (takP p)).sum)).sum := by
      intro l
      induction l with
      | nil => rfl
      | cons x l ih => simp only [List.map_cons, List.sum_cons] at ih ⊢; omega
    rw [split, e1]
    simp only [List.map_cons, List.sum_cons]
    congr 1
    obtain ⟨r, x⟩ := z
    have zer : ∀ l : List Int, (l.map (fun _ => (0 : Int))).sum = 0 := by
      intro l
      induction l with
      | nil => rfl
      | cons _ _ ih => simp only [List.map_cons, List.sum_cons, ih]; omega
    cases r with
    | none => simp only [takP]; exact zer _
    | some r =>
      have hr := h (some r, x) (by simp) r rfl
      simp only [takP]
      cases hb : r.2 with
      | none => simp only [inb]; simp; exact zer _
      | some y =>
        have hy := hr y hb
        have one : ∀ l : List Int, l.Nodup → (l.map (fun p => if some y = some p then x else 0)).sum = if y ∈ l then x else 0 := by
          intro l
          induction l with
          | nil => intro _; rfl
          | cons q l ih =>
            intro nd
            have nd' := List.nodup_cons.mp nd
            simp only [List.map_cons, List.sum_cons, ih nd'.2, List.mem_cons]
            by_cases e : y = q
            · have : y ∉ l := e ▸ nd'.1
              simp [e]; rw [← e]; simp [this]
            · simp [e]
        rw [one _ (List.Nodup.sublist (List.filter_sublist ..) nd)]
        simp only [inb]
        by_cases hm : m y = true
        · simp [hm, hy]
        · simp [hm]
end Pv

namespace Pv
theorem zs_mem {cs : List Int} {gs : List Gp} {xs : List Int} {z : Rt × Int} (h : z ∈ zsOf cs gs xs) : ∃ g ∈ gs, z.1 = routeOf cs gs g := by
  unfold zsOf at h
  have := (List.of_mem_zip h).1
  obtain ⟨g, hg, e⟩ := List.mem_map.mp this
  exact ⟨g, hg, e.symm⟩
theorem esx_zs (cs : List Int) (gs : List Gp) (xs : List Int) : esx cs gs xs = (zsOf cs gs xs).map fun z => ((z.1, z.2, z.2) : Ed) := by
  unfold esx zsOf
  have : ∀ (hs : List Gp) (xs : List Int), List.zipWith (fun g x => ((routeOf cs gs g, x, x) : Ed)) hs xs = ((hs.map (routeOf cs gs)).zip xs).map fun z => ((z.1, z.2, z.2) : Ed) := by
    intro hs
    induction hs with
    | nil => intro xs; simp
    | cons h hs ih => intro xs; cases xs with | nil => simp | cons x xs => simp [ih]
  exact this gs xs
theorem sum_sub {α : Type} (f g : α → Int) : ∀ l : List α, (l.map (fun x => f x - g x)).sum = (l.map f).sum - (l.map g).sum
  | [] => by simp
  | x :: l => by simp only [List.map_cons, List.sum_cons, sum_sub f g l]; omega
theorem sum_add {α : Type} (f g : α → Int) : ∀ l : List α, (l.map (fun x => f x + g x)).sum = (l.map f).sum + (l.map g).sum
  | [] => by simp
  | x :: l => by simp only [List.map_cons, List.sum_cons, sum_add f g l]; omega
theorem sum_zero {α : Type} {f : α → Int} : ∀ {l : List α}, (∀ x ∈ l, f x = 0) → (l.map f).sum = 0
  | [], _ => by simp
  | x :: l, h => by simp only [List.map_cons, List.sum_cons, h x (by simp), sum_zero (l := l) fun y hy => h y (by simp [hy])]; omega
section
variable {cs : List Int} {gs : List Gp} {xs : List Int}
theorem FS_esx (ok : InsOk cs gs) (m : Int → Bool) : FS (nzP cs gs) (spOf cs gs) m (esx cs gs xs) = (((nzP cs gs).filter m).map (fun p => spOf cs gs p + (((zsOf cs gs xs).map (movP p)).sum - ((zsOf cs gs xs).map (takP p)).sum))).sum := by
  rw [sum_add, sum_sub, mov_sum (nz_nodup cs gs) m (zsOf cs gs xs) ?_, tak_sum (nz_nodup cs gs) m (zsOf cs gs xs) ?_]
  · unfold FS spareS
    rw [esx_zs, List.map_map, ← sum_sub]
    congr 2
    apply List.map_congr_left
    intro z _
    obtain ⟨r, x⟩ := z
    cases r with
    | none => simp [wE, sg]
    | some r =>
      simp only [Function.comp, wE_some]
      cases h1 : inb m r.2 <;> cases h2 : m r.1 <;> simp [wB]
  · intro z hz r hr y hy
    obtain ⟨g, hg, e⟩ := zs_mem hz
    have := (route_wf ok hg (e ▸ hr)).2 y hy
    exact nz_mem.mpr ⟨this.2, by omega⟩
  · intro z hz r hr
    obtain ⟨g, hg, e⟩ := zs_mem hz
    have := cro_mem.mp (route_wf ok hg (e ▸ hr)).1
    exact nz_mem.mpr ⟨this.1, by omega⟩
theorem PS_esx (p : Int) : PS (spOf cs gs) p (esx cs gs xs) = - spOf cs gs p - ((zsOf cs gs xs).map (movP p)).sum := by
  unfold PS
  rw [esx_zs, List.map_map]
  congr 2
theorem ZS_esx : ZS (esx cs gs xs) = - ((zsOf cs gs xs).map (fun z => match z.1 with | none => z.2 | some _ => 0)).sum := by
  unfold ZS
  rw [esx_zs, List.map_map]
  congr 2
theorem exc_get {p : Nat} (h : p < cs.length) : (rExc cs gs)[p]'(by rw [rExc_len]; exact h) = mx (- spOf cs gs p) ∧ (rFre cs gs)[p]'(by rw [rFre_len]; exact h) = mx (spOf cs gs p) := by
  have hd : p < (rDem cs gs).length := by rw [rDem_len]; exact h
  have e1 : (rExc cs gs).getD p 0 = (rExc cs gs)[p]'(by rw [rExc_len]; exact h) := by rw [List.getD_eq_getElem?_getD, List.getElem?_eq_getElem (by rw [rExc_len]; exact h)]; rfl
  have e2 : (rFre cs gs).getD p 0 = (rFre cs gs)[p]'(by rw [rFre_len]; exact h) := by rw [List.getD_eq_getElem?_getD, List.getElem?_eq_getElem (by rw [rFre_len]; exact h)]; rfl
  rw [← e1, ← e2]
  unfold rExc rFre
  rw [exc_at h hd, fre_at h hd]
  unfold spOf
  rw [Int.toNat_natCast, List.getD_eq_getElem?_getD, List.getD_eq_getElem?_getD, List.getElem?_eq_getElem h, List.getElem?_eq_getElem hd]
  simp only [Option.getD_some]
  exact ⟨congrArg mx (by omega), trivial⟩
theorem zs_in (ok : InsOk cs gs) : ∀ z ∈ zsOf cs gs xs, ∀ r, z.1 = some r → (0 ≤ r.1 ∧ r.1 < (cs.length : Int)) ∧ ∀ y, r.2 = some y → 0 ≤ y ∧ y < (cs.length : Int) := by
  intro z hz r hr
  obtain ⟨g, hg, e⟩ := zs_mem hz
  exact route_in ok hg (e ▸ hr)
theorem mov_zero (ok : InsOk cs gs) {p : Int} (h : 0 ≤ spOf cs gs p) : ((zsOf cs gs xs).map (movP p)).sum = 0 := by
  refine sum_zero fun z hz => ?_
  obtain ⟨g, hg, e⟩ := zs_mem hz
  unfold movP
  cases hr : z.1 with
  | none => rfl
  | some r =>
    have h1 := cro_mem.mp (route_wf ok hg (e ▸ hr)).1
    have : r.1 ≠ p := fun e => by rw [e] at h1; omega
    simp [this]
theorem tak_zero (ok : InsOk cs gs) {p : Int} (h : spOf cs gs p ≤ 0) : ((zsOf cs gs xs).map (takP p)).sum = 0 := by
  refine sum_zero fun z hz => ?_
  obtain ⟨g, hg, e⟩ := zs_mem hz
  unfold takP
  cases hr : z.1 with
  | none => rfl
  | some r =>
    have h1 := (route_wf ok hg (e ▸ hr)).2
    have : r.2 ≠ some p := fun e => by have := h1 p e; omega
    simp [this]
theorem all_zip {α : Type} {as bs : List Int} (hl : as.length = bs.length) : (as.zip bs).all (fun z => decide (z.1 ≤ z.2)) = true ↔ ∀ (j : Nat) (h1 : j < as.length) (h2 : j < bs.length), as[j] ≤ bs[j] := by
  rw [List.all_eq_true]
  constructor
  · intro h j h1 h2
    have : (as.zip bs)[j]? = some (as[j], bs[j]) := by rw [List.getElem?_zip_eq_some]; exact ⟨List.getElem?_eq_getElem h1, List.getElem?_eq_getElem h2⟩
    simpa using h _ (List.mem_of_getElem? this)
  · intro h z hz
    obtain ⟨j, hj, e⟩ := List.mem_iff_getElem.mp hz
    rw [List.length_zip] at hj
    have := h j (by omega) (by omega)
    rw [← e]
    simpa using this
/-- the vectors are the integers that keep to all cuts -/
theorem vec_feas (ok : InsOk cs gs) (hb : ∀ z ∈ zsOf cs gs xs, 0 ≤ z.2) : meetsD cs gs xs = true ↔ Feas (nzP cs gs) (spOf cs gs) (rCro cs gs) (esx cs gs xs) := by
  have hlen := mvOf_len cs.length (zsOf cs gs xs)
  have hget := fun q => mv_get (zs_in (xs := xs) ok) q
  have takNN : ∀ p, 0 ≤ ((zsOf cs gs xs).map (takP p)).sum := fun p => sum_nn fun y hy => by
    obtain ⟨z, hz, rfl⟩ := List.mem_map.mp hy
    have := hb z hz
    unfold takP
    split
    · split <;> omega
    · omega
  have g1 : ∀ q (h : q < cs.length), (mvOf cs.length (zsOf cs gs xs)).1[q]'(by omega) = ((zsOf cs gs xs).map (movP q)).sum := fun q h => by
    rw [← (hget q).1, List.getD_eq_getElem?_getD, List.getElem?_eq_getElem (by omega)]; rfl
  have g2 : ∀ q (h : q < cs.length), (mvOf cs.length (zsOf cs gs xs)).2[q]'(by omega) = ((zsOf cs gs xs).map (takP q)).sum := fun q h => by
    rw [← (hget q).2, List.getD_eq_getElem?_getD, List.getElem?_eq_getElem (by omega)]; rfl
  have hm : meetsD cs gs xs = true ↔ (∀ z ∈ zsOf cs gs xs, z.1 = none → z.2 = 0) ∧ (∀ q (h : q < cs.length), ((zsOf cs gs xs).map (movP q)).sum = mx (- spOf cs gs q)) ∧ (∀ q (h : q < cs.length), ((zsOf cs gs xs).map (takP q)).sum ≤ mx (spOf cs gs q)) := by
    unfold meetsD
    rw [Bool.and_eq_true, Bool.and_eq_true, decide_eq_true_iff, all_zip (α := Int) (by rw [hlen.2, rFre_len])]
    refine ⟨fun h => ⟨fun z hz hn => ?_, fun q hq => ?_, fun q hq => ?_⟩, fun h => ⟨⟨?_, ?_⟩, fun j h1 h2 => ?_⟩⟩
    · have := List.all_eq_true.mp h.1.1 z hz
      unfold goodZ at this
      rw [hn] at this
      simpa using this
    · rw [← g1 q hq, ← (exc_get (gs := gs) hq).1]
      congr 1
      exact h.1.2
    · have := h.2 q (by omega) (by rw [rFre_len]; exact hq)
      rw [g2 q hq, (exc_get (gs := gs) hq).2] at this
      exact this
    · rw [List.all_eq_true]
      intro z hz
      unfold goodZ
      cases hr : z.1 with
      | none => simp [h.1 z hz hr]
      | some r => rfl
    · apply List.ext_getElem
      · rw [hlen.1, rExc_len]
      · intro q h1 h2
        have hq : q < cs.length := by omega
        rw [g1 q hq, (exc_get (gs := gs) hq).1, h.2.1 q hq]
    · have hq : j < cs.length := by omega
      rw [g2 j hq, (exc_get (gs := gs) hq).2]
      exact h.2.2 j hq
  rw [hm]
  constructor
  · rintro ⟨hz, hmv, htk⟩
    refine ⟨fun m => ?_, fun p hp => ?_, ?_⟩
    · rw [FS_esx ok]
      refine sum_nn fun y hy => ?_
      obtain ⟨p, hp, rfl⟩ := List.mem_map.mp hy
      have hp := nz_mem.mp (List.mem_filter.mp hp).1
      obtain ⟨pn, rfl⟩ : ∃ pn : Nat, p = pn := ⟨p.toNat, by omega⟩
      have h1 := hmv pn (by omega)
      have h2 := htk pn (by omega)
      unfold mx at h1 h2
      split at h1 <;> split at h2 <;> omega
    · rw [PS_esx]
      have hp := cro_mem.mp hp
      obtain ⟨pn, rfl⟩ : ∃ pn : Nat, p = pn := ⟨p.toNat, by omega⟩
      have h1 := hmv pn (by omega)
      unfold mx at h1
      split at h1 <;> omega
    · rw [ZS_esx, sum_zero]
      · decide
      · intro z hz'
        cases hr : z.1 with
        | none => exact hz z hz' hr
        | some r => rfl
  · intro Fe
    have one : ∀ p : Int, (0 ≤ p ∧ p < (cs.length : Int)) → spOf cs gs p ≠ 0 → 0 ≤ spOf cs gs p + (((zsOf cs gs xs).map (movP p)).sum - ((zsOf cs gs xs).map (takP p)).sum) := by
      intro p hp hs
      have := Fe.set (fun q => decide (q = p))
      rw [FS_esx ok] at this
      have hf : (nzP cs gs).filter (fun q => decide (q = p)) = [p] := by
        have hin : p ∈ nzP cs gs := nz_mem.mpr ⟨hp, hs⟩
        have nd := nz_nodup cs gs
        generalize nzP cs gs = N at hin nd
        induction N with
        | nil => cases hin
        | cons x N ih =>
          have nd' := List.nodup_cons.mp nd
          by_cases e : x = p
          · subst e
            rw [List.filter_cons_of_pos (by simp)]
            congr 1
            rw [List.filter_eq_nil_iff]
            intro q hq
            have : q ≠ x := fun z => nd'.1 (z ▸ hq)
            simp [this]
          · rw [List.filter_cons_of_neg (by simp [e])]
            rcases List.mem_cons.mp hin with h | h
            · exact absurd h.symm e
            · exact ih h nd'.2
      rw [hf] at this
      simpa using this
    refine ⟨fun z hz hn => ?_, fun q hq => ?_, fun q hq => ?_⟩
    · have h1 := Fe.z
      rw [ZS_esx] at h1
      have h2 : z.2 ≤ ((zsOf cs gs xs).map (fun z => match z.1 with | none => z.2 | some _ => 0)).sum := sum_ge (fun y hy => by
        obtain ⟨z', hz', rfl⟩ := List.mem_map.mp hy
        have := hb z' hz'
        split <;> omega) (List.mem_map.mpr ⟨z, hz, by rw [hn]⟩)
      have := hb z hz
      omega
    · by_cases hs : spOf cs gs q < 0
      · have h1 := one q (by omega) (by omega)
        have h2 := Fe.st q (cro_mem.mpr ⟨by omega, hs⟩)
        rw [PS_esx] at h2
        have h3 := tak_zero (xs := xs) ok (p := q) (by omega)
        unfold mx
        split <;> omega
      · have h1 := mov_zero (xs := xs) ok (p := q) (by omega)
        unfold mx
        split <;> omega
    · by_cases hs : 0 < spOf cs gs q
      · have h1 := one q (by omega) (by omega)
        have h3 := mov_zero (xs := xs) ok (p := q) (by omega)
        unfold mx
        split <;> omega
      · have h1 := tak_zero (xs := xs) ok (p := q) (by omega)
        unfold mx
        split <;> omega
end
/-! the program's own lists of cuts -/
def subsL (ps : List Int) : List (List Int) := ps.foldl (fun acc p => acc ++ acc.map (fun s => s ++ [p])) [[]]
theorem subsL_snoc (ps : List Int) (p : Int) : subsL (ps ++ [p]) = subsL ps ++ (subsL ps).map (fun s => s ++ [p]) := by simp [subsL, List.foldl_append]
def mem (s : List Int) (p : Int) : Bool := s.contains p
theorem subs_all (m : Int → Bool) (N : List Int) : N.filter m ∈ subsL N := by
  have : ∀ l : List Int, l.reverse.filter m ∈ subsL l.reverse := by
    intro l
    induction l with
    | nil => simp [subsL]
    | cons x l ih =>
      rw [List.reverse_cons, subsL_snoc, List.filter_append, List.mem_append]
      by_cases h : m x = true
      · right
        rw [List.filter_cons_of_pos h]
        exact List.mem_map.mpr ⟨_, ih, rfl⟩
      · left
        rw [List.filter_cons_of_neg h]
        simpa using ih
  have := this N.reverse
  rwa [List.reverse_reverse] at this
theorem subs_is {N : List Int} (nd : N.Nodup) {s : List Int} (h : s ∈ subsL N) : N.filter (mem s) = s := by
  have : ∀ l : List Int, l.reverse.Nodup → ∀ s ∈ subsL l.reverse, (∀ x ∈ s, x ∈ l.reverse) ∧ l.reverse.filter (mem s) = s := by
    intro l
    induction l with
    | nil => intro _ s hs; simp [subsL] at hs; subst hs; simp
    | cons x l ih =>
      intro nd s hs
      rw [List.reverse_cons] at nd hs ⊢
      have nd' := List.nodup_append.mp nd
      have hx : x ∉ l.reverse := fun h => nd'.2.2 x h x (by simp) rfl
      rw [subsL_snoc, List.mem_append] at hs
      rcases hs with hs | hs
      · obtain ⟨h1, h2⟩ := ih nd'.1 s hs
        have hxs : x ∉ s := fun z => hx (h1 x z)
        refine ⟨fun y hy => by simp [List.mem_reverse.mp (h1 y hy)], ?_⟩
        rw [List.filter_append, h2, List.filter_cons_of_neg (by simpa [mem] using hxs)]
        simp
      · obtain ⟨s', hs', rfl⟩ := List.mem_map.mp hs
        obtain ⟨h1, h2⟩ := ih nd'.1 s' hs'
        refine ⟨fun y hy => ?_, ?_⟩
        · rcases List.mem_append.mp hy with h | h
          · simp [List.mem_reverse.mp (h1 y h)]
          · simp at h; simp [h]
        · rw [List.filter_append, List.filter_cons_of_pos (by simp [mem])]
          congr 1
          conv => rhs; rw [← h2]
          apply List.filter_congr
          intro y hy
          have : y ≠ x := fun z => hx (z ▸ hy)
          simp [mem, this]
  have := (this N.reverse (by simpa using nd) s (by simpa using h)).2
  simpa using this
def zSg : Rt → Int
  | none => 1
  | some _ => 0
def stSg (p : Int) : Rt → Int
  | some r => if r.1 = p then 1 else 0
  | none => 0
section
variable (N : List Int) (sp : Int → Int) (C : List Int)
def slk (es : List Ed) : List Int := ZS es :: (C.map (fun p => PS sp p es) ++ (subsL N).map (fun s => FS N sp (mem s) es))
def sgn (r : Rt) : List Int := zSg r :: (C.map (fun p => stSg p r) ++ (subsL N).map (fun s => sg (mem s) r))
end
def lows (sl sg : List Int) (c : Int) : List Int := ((sl.zip sg).filter (fun z => decide (z.2 < 0))).map (fun z => c - z.1)
def highs (sl sg : List Int) : List Int := ((sl.zip sg).filter (fun z => decide (0 < z.2))).map (fun z => z.1)
theorem zip_app {α β : Type} {a1 a2 : List α} {b1 b2 : List β} (h : a1.length = b1.length) : (a1 ++ a2).zip (b1 ++ b2) = a1.zip b1 ++ a2.zip b2 := List.zip_append h
theorem zip_maps {α : Type} (f g : α → Int) (l : List α) : (l.map f).zip (l.map g) = l.map (fun x => (f x, g x)) := by
  induction l with
  | nil => rfl
  | cons x l ih => simp [ih]
theorem slk_zip (N : List Int) (sp : Int → Int) (C : List Int) (es : List Ed) (r : Rt) : (slk N sp C es).zip (sgn N C r) = (ZS es, zSg r) :: (C.map (fun p => (PS sp p es, stSg p r)) ++ (subsL N).map (fun s => (FS N sp (mem s) es, sg (mem s) r))) := by
  unfold slk sgn
  rw [List.zip_cons_cons, zip_app (by simp), zip_maps, zip_maps]
/-- FS looks at a set only by its posts in N -/
theorem FS_mem {N : List Int} {sp : Int → Int} {es : List Ed} (hes : ∀ e ∈ es, ∀ r, e.1 = some r → r.1 ∈ N ∧ ∀ y, r.2 = some y → y ∈ N) (m : Int → Bool) : FS N sp (mem (N.filter m)) es = FS N sp m es := by
  have hm : ∀ p ∈ N, mem (N.filter m) p = m p := by
    intro p hp
    unfold mem
    rw [Bool.eq_iff_iff, List.contains_iff_mem, List.mem_filter]
    exact ⟨fun h => h.2, fun h => ⟨hp, h⟩⟩
  unfold FS spareS
  congr 1
  · rw [List.filter_congr hm]
  · congr 1
    apply List.map_congr_left
    intro e he
    obtain ⟨r, l, u⟩ := e
    cases r with
    | none => simp [wE, sg]
    | some r =>
      have h1 := hes _ he r rfl
      rw [wE_some, wE_some, hm _ h1.1]
      congr 1
      cases hr : r.2 with
      | none => rfl
      | some y => exact hm y (h1.2 y hr)
theorem sg_mem {N : List Int} {r : Rt} (h : ∀ q, r = some q → q.1 ∈ N ∧ ∀ y, q.2 = some y → y ∈ N) (m : Int → Bool) : sg (mem (N.filter m)) r = sg m r := by
  have hm : ∀ p ∈ N, mem (N.filter m) p = m p := by
    intro p hp
    unfold mem
    rw [Bool.eq_iff_iff, List.contains_iff_mem, List.mem_filter]
    exact ⟨fun h => h.2, fun h => ⟨hp, h⟩⟩
  cases r with
  | none => rfl
  | some q =>
    have h1 := h q rfl
    have : inb (mem (N.filter m)) q.2 = inb m q.2 := by
      cases hr : q.2 with
      | none => rfl
      | some y => exact hm y (h1.2 y hr)
    simp only [sg, hm _ h1.1, this]
end Pv

namespace Pv
def IsMax (a : Int) (l : List Int) : Prop := a ∈ l ∧ ∀ y ∈ l, y ≤ a
def IsMin (a : Int) (l : List Int) : Prop := a ∈ l ∧ ∀ y ∈ l, a ≤ y
section
variable {N : List Int} {sp : Int → Int} {C : List Int} {es : List Ed}
theorem low_mem {r : Rt} {c y : Int} : y ∈ lows (slk N sp C es) (sgn N C r) c ↔ ∃ s ∈ subsL N, sg (mem s) r < 0 ∧ y = c - FS N sp (mem s) es := by
  unfold lows
  rw [slk_zip]
  simp only [List.mem_map, List.mem_filter, List.mem_cons, List.mem_append, decide_eq_true_eq]
  constructor
  · rintro ⟨z, ⟨h | h | h, hn⟩, rfl⟩
    · subst h; simp only at hn; cases r <;> simp [zSg] at hn
    · obtain ⟨p, hp, rfl⟩ := h; simp only at hn; cases r with | none => simp [stSg] at hn | some r => simp only [stSg] at hn; split at hn <;> omega
    · obtain ⟨s, hs, rfl⟩ := h; exact ⟨s, hs, hn, rfl⟩
  · rintro ⟨s, hs, hn, rfl⟩
    exact ⟨_, ⟨.inr (.inr ⟨s, hs, rfl⟩), hn⟩, rfl⟩
theorem high_mem {r : Rt} {y : Int} : y ∈ highs (slk N sp C es) (sgn N C r) ↔ (r = none ∧ y = ZS es) ∨ (∃ q, r = some q ∧ q.1 ∈ C ∧ y = PS sp q.1 es) ∨ ∃ s ∈ subsL N, 0 < sg (mem s) r ∧ y = FS N sp (mem s) es := by
  unfold highs
  rw [slk_zip]
  simp only [List.mem_map, List.mem_filter, List.mem_cons, List.mem_append, decide_eq_true_eq]
  constructor
  · rintro ⟨z, ⟨h | h | h, hn⟩, rfl⟩
    · subst h
      simp only at hn
      cases r with
      | none => exact .inl ⟨rfl, rfl⟩
      | some r => simp [zSg] at hn
    · obtain ⟨p, hp, rfl⟩ := h
      simp only at hn
      cases r with
      | none => simp [stSg] at hn
      | some r =>
        simp only [stSg] at hn
        split at hn
        case isTrue e => exact .inr (.inl ⟨r, rfl, e ▸ hp, by rw [e]⟩)
        case isFalse e => omega
    · obtain ⟨s, hs, rfl⟩ := h; exact .inr (.inr ⟨s, hs, hn, rfl⟩)
  · rintro (⟨rfl, rfl⟩ | ⟨q, rfl, hq, rfl⟩ | ⟨s, hs, hn, rfl⟩)
    · exact ⟨_, ⟨.inl rfl, by simp [zSg]⟩, rfl⟩
    · exact ⟨_, ⟨.inr (.inl ⟨q.1, hq, rfl⟩), by simp [stSg]⟩, rfl⟩
    · exact ⟨_, ⟨.inr (.inr ⟨s, hs, rfl⟩), hn⟩, rfl⟩
def RIn (N : List Int) (es : List Ed) : Prop := ∀ e ∈ es, ∀ r, e.1 = some r → r.1 ∈ N ∧ ∀ y, r.2 = some y → y ∈ N
/-- the range that the program tells is what is open -/
theorem range_ok (W : Wf N C es) (R : RIn N es) (Fe : Feas N sp C es) {j : Nat} {r : Rt} {c : Int} (he : es[j]? = some (r, 0, c)) {a b : Int} (ha : IsMax a (0 :: lows (slk N sp C es) (sgn N C r) c)) (hb : IsMin b (c :: highs (slk N sp C es) (sgn N C r))) :
    (0 ≤ a ∧ a ≤ c ∧ Opn N sp es (r, 0, c) a) ∧ (0 ≤ b ∧ b ≤ c ∧ Opn N sp es (r, 0, c) b) ∧ ∀ x, 0 ≤ x → x ≤ c → (Opn N sp es (r, 0, c) x ↔ a ≤ x ∧ x ≤ b) := by
  have hm := List.mem_of_getElem? he
  have hc : (0 : Int) ≤ c := W.lu _ hm
  have hr : ∀ q, r = some q → q.1 ∈ N ∧ ∀ y, q.2 = some y → y ∈ N := fun q e => R _ hm q e
  have lo : ∀ m, sg m r < 0 → c - FS N sp m es ≤ a := by
    intro m h
    refine ha.2 _ (List.mem_cons_of_mem _ (low_mem.mpr ⟨N.filter m, subs_all m N, by rw [sg_mem hr]; exact h, by rw [FS_mem R]⟩))
  have hi : ∀ m, 0 < sg m r → b ≤ FS N sp m es := by
    intro m h
    refine hb.2 _ (List.mem_cons_of_mem _ (high_mem.mpr (.inr (.inr ⟨N.filter m, subs_all m N, by rw [sg_mem hr]; exact h, by rw [FS_mem R]⟩))))
  have hp : ∀ q, r = some q → b ≤ PS sp q.1 es := fun q e => hb.2 _ (List.mem_cons_of_mem _ (high_mem.mpr (.inr (.inl ⟨q, e, W.a _ hm q e, rfl⟩))))
  have hz : r = none → b ≤ ZS es := fun e => hb.2 _ (List.mem_cons_of_mem _ (high_mem.mpr (.inl ⟨e, rfl⟩)))
  have a0 : 0 ≤ a := ha.2 0 (by simp)
  have bc : b ≤ c := hb.2 c (by simp)
  have oa : Opn N sp es (r, 0, c) a := by
    refine opn_least W Fe hm lo ?_
    rcases List.mem_cons.mp ha.1 with h | h
    · exact .inl h
    · obtain ⟨s, _, h1, h2⟩ := low_mem.mp h
      exact .inr ⟨mem s, h1, h2⟩
  have ob : Opn N sp es (r, 0, c) b := by
    refine opn_most W Fe hm (fun m h => by have := hi m h; simp only; omega) (fun q e => by have := hp q e; simp only; omega) (fun e => by have := hz e; simp only; omega) ?_
    rcases List.mem_cons.mp hb.1 with h | h
    · exact .inl h
    · rcases high_mem.mp h with ⟨e, h⟩ | ⟨q, e, _, h⟩ | ⟨s, _, h1, h2⟩
      · exact .inr (.inr (.inr ⟨e, by simp only; omega⟩))
      · exact .inr (.inr (.inl ⟨q, e, by simp only; omega⟩))
      · exact .inr (.inl ⟨mem s, h1, by simp only; omega⟩)
  have ac : a ≤ c := by
    rcases List.mem_cons.mp ha.1 with h | h
    · omega
    · obtain ⟨s, _, h1, h2⟩ := low_mem.mp h
      have := Fe.set (mem s)
      omega
  have b0 : 0 ≤ b := by
    rcases List.mem_cons.mp hb.1 with h | h
    · omega
    · rcases high_mem.mp h with ⟨e, h⟩ | ⟨q, e, hq, h⟩ | ⟨s, _, h1, h2⟩
      · have := Fe.z; omega
      · have := Fe.st _ hq; omega
      · have := Fe.set (mem s); omega
  refine ⟨⟨a0, ac, oa⟩, ⟨b0, bc, ob⟩, fun x x0 xc => ⟨fun o => ⟨?_, ?_⟩, fun h => ⟨fun m hm => ?_, fun m hm => ?_, fun q e => ?_, fun e => ?_⟩⟩⟩
  · rcases List.mem_cons.mp ha.1 with h | h
    · omega
    · obtain ⟨s, _, h1, h2⟩ := low_mem.mp h
      have := o.lo (mem s) h1
      simp only at this; omega
  · rcases List.mem_cons.mp hb.1 with h | h
    · omega
    · rcases high_mem.mp h with ⟨e, h⟩ | ⟨q, e, hq, h⟩ | ⟨s, _, h1, h2⟩
      · have := o.z e; simp only at this; omega
      · have := o.p q e; simp only at this; omega
      · have := o.hi (mem s) h1; simp only at this; omega
  · have := lo m hm; simp only; omega
  · have := hi m hm; simp only; omega
  · have := hp q e; simp only; omega
  · have := hz e; simp only; omega
/-- what a group's integer takes of each slack -/
def used (c x s : Int) : Int := if s < 0 then c - x else if 0 < s then x else 0
theorem slk_set {j : Nat} {r : Rt} {c : Int} (he : es[j]? = some (r, 0, c)) (x : Int) : slk N sp C (es.set j (r, x, x)) = List.zipWith (fun s g => s - used c x g) (slk N sp C es) (sgn N C r) := by
  unfold slk sgn
  rw [List.zipWith_cons_cons, List.zipWith_append (by simp), List.zipWith_map, List.zipWith_map, List.zipWith_self, List.zipWith_self]
  congr 1
  · rw [Z_set he]
    cases r <;> simp [lZ, zSg, used]
  · congr 1
    · apply List.map_congr_left
      intro p _
      rw [P_set he]
      cases r with
      | none => simp [lP, stSg, used]
      | some q =>
        simp only [lP, stSg, used]
        by_cases h : q.1 = p <;> simp [h]
    · apply List.map_congr_left
      intro s _
      rw [F_set he]
      unfold wE used
      simp only
      by_cases h1 : sg (mem s) r < 0
      · simp only [h1, if_true]; omega
      · by_cases h2 : 0 < sg (mem s) r
        · simp only [h1, h2, if_true, if_false]; omega
        · simp only [h1, h2, if_false]; omega
end
/-! vectors -/
def IsVec (cs : List Int) (gs : List Gp) (xs : List Int) : Prop := xs.length = gs.length ∧ (∀ (j : Nat) (g : Gp) (x : Int), gs[j]? = some g → xs[j]? = some x → 0 ≤ x ∧ x ≤ g.2) ∧ meetsD cs gs xs = true
abbrev FeasI (cs : List Int) (gs : List Gp) (es : List Ed) : Prop := Feas (nzP cs gs) (spOf cs gs) (rCro cs gs) es
section
variable {cs : List Int} {gs : List Gp} {xs : List Int}
theorem zs_nn (hl : xs.length = gs.length) (hb : ∀ (j : Nat) (g : Gp) (x : Int), gs[j]? = some g → xs[j]? = some x → 0 ≤ x ∧ x ≤ g.2) : ∀ z ∈ zsOf cs gs xs, 0 ≤ z.2 := by
  intro z hz
  obtain ⟨j, hj, e⟩ := List.mem_iff_getElem.mp hz
  have hjg : j < gs.length := by have := hj; unfold zsOf at this; rw [List.length_zip, List.length_map] at this; omega
  have e2 := zs_at (cs := cs) hl hjg
  rw [List.getElem?_eq_getElem hj, e] at e2
  cases e2
  exact (hb j gs[j] xs[j] (List.getElem?_eq_getElem hjg) (List.getElem?_eq_getElem (by omega))).1
theorem vec_iff (ok : InsOk cs gs) : IsVec cs gs xs ↔ xs.length = gs.length ∧ (∀ (j : Nat) (g : Gp) (x : Int), gs[j]? = some g → xs[j]? = some x → 0 ≤ x ∧ x ≤ g.2) ∧ FeasI cs gs (esx cs gs xs) := by
  unfold IsVec
  constructor
  · rintro ⟨h1, h2, h3⟩; exact ⟨h1, h2, (vec_feas ok (zs_nn h1 h2)).mp h3⟩
  · rintro ⟨h1, h2, h3⟩; exact ⟨h1, h2, (vec_feas ok (zs_nn h1 h2)).mpr h3⟩
theorem rin_es0 (ok : InsOk cs gs) : RIn (nzP cs gs) (es0 cs gs) := by
  intro e he r hr
  obtain ⟨g, hg, rfl⟩ := List.mem_map.mp he
  have h := route_wf ok hg hr
  have h1 := cro_mem.mp h.1
  exact ⟨nz_mem.mpr ⟨h1.1, by omega⟩, fun y hy => by have := h.2 y hy; exact nz_mem.mpr ⟨this.2, by omega⟩⟩
/-- groups j with their integers, the others open -/
theorem vec_of_feas (ok : InsOk cs gs) {es : List Ed} (hl : es.length = gs.length) (hr : ∀ (j : Nat) (e : Ed) (g : Gp), es[j]? = some e → gs[j]? = some g → e.1 = routeOf cs gs g ∧ 0 ≤ e.2.1 ∧ e.2.1 ≤ e.2.2 ∧ e.2.2 ≤ g.2) (Fe : FeasI cs gs es) :
    ∃ xs, IsVec cs gs xs ∧ ∀ (j : Nat) (e : Ed) (x : Int), es[j]? = some e → xs[j]? = some x → e.2.1 ≤ x ∧ x ≤ e.2.2 := by
  have W : Wf (nzP cs gs) (rCro cs gs) es := wf_of ok fun e he => by
    obtain ⟨j, hj, e1⟩ := List.mem_iff_getElem.mp he
    have := hr j e gs[j] (by rw [List.getElem?_eq_getElem hj, e1]) (List.getElem?_eq_getElem (by omega))
    exact ⟨this.2.2.1, gs[j], List.getElem_mem _, this.1⟩
  obtain ⟨xs, lx, bx, Fx⟩ := complete W Fe
  refine ⟨xs, (vec_iff ok).mpr ⟨by omega, fun j g x hg hx => ?_, ?_⟩, bx⟩
  · have hj : j < es.length := by have := (List.getElem?_eq_some_iff.mp hg).1; omega
    have h1 := bx j es[j] x (List.getElem?_eq_getElem hj) hx
    have h2 := hr j es[j] g (List.getElem?_eq_getElem hj) hg
    omega
  · have : List.zipWith (fun (e : Ed) x => ((e.1, x, x) : Ed)) es xs = esx cs gs xs := by
      unfold esx
      apply List.ext_getElem
      · simp; omega
      · intro j h1 h2
        rw [List.length_zipWith] at h1
        rw [List.getElem_zipWith, List.getElem_zipWith]
        rw [(hr j es[j] gs[j] (List.getElem?_eq_getElem (by omega)) (List.getElem?_eq_getElem (by omega))).1]
    rw [this] at Fx
    exact Fx
theorem feas_of_vec (ok : InsOk cs gs) (hv : IsVec cs gs xs) {es : List Ed} (hl : es.length = gs.length) (hr : ∀ (j : Nat) (e : Ed) (g : Gp) (x : Int), es[j]? = some e → gs[j]? = some g → xs[j]? = some x → e.1 = routeOf cs gs g ∧ e.2.1 ≤ x ∧ x ≤ e.2.2) : FeasI cs gs es := by
  obtain ⟨h1, h2, h3⟩ := (vec_iff ok).mp hv
  refine feas_loose h3 (by unfold esx; rw [List.length_zipWith]; omega) fun j e f he hf => ?_
  have hj : j < gs.length := by have := (List.getElem?_eq_some_iff.mp he).1; omega
  have hf2 : f = (routeOf cs gs gs[j], xs[j], xs[j]) := by
    unfold esx at hf
    rw [List.getElem?_zipWith, List.getElem?_eq_getElem hj, List.getElem?_eq_getElem (show j < xs.length by omega)] at hf
    simpa using hf.symm
  have := hr j e gs[j] xs[j] he (List.getElem?_eq_getElem hj) (List.getElem?_eq_getElem (by omega))
  subst hf2
  exact this
theorem es0_at {j : Nat} {g : Gp} (hg : gs[j]? = some g) : (es0 cs gs)[j]? = some (routeOf cs gs g, 0, g.2) := by
  unfold es0; rw [List.getElem?_map, hg]; rfl
/-- there is a vector exactly if all cuts have slack -/
theorem some_vec (ok : InsOk cs gs) : (∃ xs, IsVec cs gs xs) ↔ FeasI cs gs (es0 cs gs) := by
  constructor
  · rintro ⟨xs, hv⟩
    refine feas_of_vec ok hv (by simp [es0]) fun j e g x he hg hx => ?_
    rw [es0_at hg] at he
    cases he
    exact ⟨rfl, hv.2.1 j g x hg hx⟩
  · intro Fe
    obtain ⟨xs, hv, _⟩ := vec_of_feas ok (by simp [es0]) (fun j e g he hg => by
      rw [es0_at hg] at he
      cases he
      exact ⟨rfl, Int.le_refl _, by have := (ok.gp g (List.mem_of_getElem? hg)).2.2.1; simp only; omega, Int.le_refl _⟩) Fe
    exact ⟨xs, hv⟩
/-- the range of a group in all vectors -/
theorem range_vec (ok : InsOk cs gs) (Fe : FeasI cs gs (es0 cs gs)) {j : Nat} {g : Gp} (hg : gs[j]? = some g) {a b : Int} (ha : IsMax a (0 :: lows (slk (nzP cs gs) (spOf cs gs) (rCro cs gs) (es0 cs gs)) (sgn (nzP cs gs) (rCro cs gs) (routeOf cs gs g)) g.2))
    (hb : IsMin b (g.2 :: highs (slk (nzP cs gs) (spOf cs gs) (rCro cs gs) (es0 cs gs)) (sgn (nzP cs gs) (rCro cs gs) (routeOf cs gs g)))) :
    (∃ xs, IsVec cs gs xs ∧ xs[j]? = some a) ∧ (∃ xs, IsVec cs gs xs ∧ xs[j]? = some b) ∧ (∀ xs x, IsVec cs gs xs → xs[j]? = some x → a ≤ x ∧ x ≤ b) ∧ ∀ x, a ≤ x → x ≤ b → ∃ xs, IsVec cs gs xs ∧ xs[j]? = some x := by
  have he := es0_at (cs := cs) hg
  have W := wf_es0 ok
  obtain ⟨⟨a0, ac, oa⟩, ⟨b0, bc, ob⟩, hx⟩ := range_ok W (rin_es0 ok) Fe he ha hb
  have hjg := (List.getElem?_eq_some_iff.mp hg).1
  have ex : ∀ x, 0 ≤ x → x ≤ g.2 → Opn (nzP cs gs) (spOf cs gs) (es0 cs gs) (routeOf cs gs g, 0, g.2) x → ∃ xs, IsVec cs gs xs ∧ xs[j]? = some x := by
    intro x x0 xc o
    have F' := (opn_iff W Fe he x).mpr o
    obtain ⟨xs, hv, bx⟩ := vec_of_feas ok (by simp [es0]) (fun k e g' he' hg' => by
      by_cases hk : k = j
      · subst hk
        rw [List.getElem?_set_self (by simp [es0]; exact hjg)] at he'
        rw [hg] at hg'
        cases he'
        cases hg'
        exact ⟨rfl, x0, Int.le_refl _, xc⟩
      · rw [List.getElem?_set_ne (fun z => hk z.symm), es0_at hg'] at he'
        cases he'
        exact ⟨rfl, Int.le_refl _, by have := (ok.gp g' (List.mem_of_getElem? hg')).2.2.1; simp only; omega, Int.le_refl _⟩) F'
    refine ⟨xs, hv, ?_⟩
    have hjx : j < xs.length := by rw [hv.1]; exact hjg
    have := bx j _ xs[j] (List.getElem?_set_self (by simp [es0]; exact hjg)) (List.getElem?_eq_getElem hjx)
    rw [List.getElem?_eq_getElem hjx]
    simp only at this
    congr 1; omega
  refine ⟨ex a a0 ac oa, ex b b0 bc ob, fun xs x hv hxj => ?_, fun x h1 h2 => ex x (by omega) (by omega) ((hx x (by omega) (by omega)).mpr ⟨h1, h2⟩)⟩
  have hb := hv.2.1 j g x hg hxj
  refine (hx x hb.1 hb.2).mp ?_
  refine (opn_iff W Fe he x).mp (feas_of_vec ok hv (by simp [es0]) fun k e g' y he' hg' hy => ?_)
  by_cases hk : k = j
  · subst hk
    rw [List.getElem?_set_self (by simp [es0]; exact hjg)] at he'
    rw [hg] at hg'
    rw [hxj] at hy
    cases he'
    cases hg'
    cases hy
    exact ⟨rfl, Int.le_refl _, Int.le_refl _⟩
  · rw [List.getElem?_set_ne (fun z => hk z.symm), es0_at hg'] at he'
    cases he'
    exact ⟨rfl, hv.2.1 k g' y hg' hy⟩
end
end Pv

namespace Pv
open PySem PySem.Spec PyProof.Rows L2
/-! a comprehension whose elements show what R tells, as long as the lists that are not X stand -/
def LcX {α β : Type} (R : Hp → V → β → Prop) (H1 : Hp) (D : Addr) (zs : List α) (F : α → Option β) (i : Nat) (H : Hp) : Prop := Same H1 H ∧ ∃ vs, H D = some (.lst vs) ∧ Rl (R H) vs ((zs.take i).filterMap F)
section
variable {α β : Type} {X : Addr → Prop} {R : Hp → V → β → Prop} {H1 H H' : Hp} {D : Addr} {zs : List α} {F : α → Option β} {i : Nat} {x : α} {y : V} {b : β}
theorem LcX.start (nD : H1 D = none) : LcX R H1 D zs F 0 (upd H1 D (.lst [])) := ⟨sameNew nD, [], upd_same, by simpa using Rl.nil⟩
theorem LcX.yes (hR : ∀ H H' v b, LX X H H' → R H v b → R H' v b) (hX : X D) (h : LcX R H1 D zs F i H) (nD : H1 D = none) (s : Same H H') (hx : zs[i]? = some x) (hF : F x = some b) (hy : R H' y b) (hi : i ≤ 1000000) : ∃ acc, H' D = some (.lst acc) ∧ acc.length < sizeLine ∧ LcX R H1 D zs F (i + 1) (upd H' D (.lst (acc ++ [y]))) := by
  obtain ⟨s1, vs, e, hv⟩ := h
  have e' := s _ _ e
  refine ⟨vs, e', ?_, samePut (s1.trans s) nD, vs ++ [y], upd_same, ?_⟩
  · have h1 := List.length_filterMap_le F (zs.take i)
    have h2 := List.length_take_le i zs
    rw [hv.1]
    exact small (by omega)
  · have tk : LX X H' (upd H' D (.lst (vs ++ [y]))) := .put e' hX
    rw [take_snoc hx, List.filterMap_append]
    simp only [List.filterMap_cons, hF, List.filterMap_nil]
    exact Rl.snoc (hv.mono fun v r h => hR _ _ _ _ ((LX.of s).trans tk) h) (hR _ _ _ _ tk hy)
theorem LcX.no (hR : ∀ H H' v b, LX X H H' → R H v b → R H' v b) (h : LcX R H1 D zs F i H) (s : Same H H') (hx : zs[i]? = some x) (hF : F x = none) : LcX R H1 D zs F (i + 1) H' := by
  obtain ⟨s1, vs, e, hv⟩ := h
  refine ⟨s1.trans s, vs, s _ _ e, ?_⟩
  rw [take_snoc hx, List.filterMap_append]
  simp only [List.filterMap_cons, hF, List.filterMap_nil, List.append_nil]
  exact hv.mono fun v r h => hR _ _ _ _ (.of s) h
theorem LcX.done (h : LcX R H1 D zs F i H) (hi : zs.length ≤ i) : ∃ vs, H D = some (.lst vs) ∧ Rl (R H) vs (zs.filterMap F) := by
  obtain ⟨_, vs, e, hv⟩ := h
  rw [List.take_of_length_le hi] at hv
  exact ⟨vs, e, hv⟩
end
theorem fm_mapI {α : Type} (f : α → Int) (l : List α) : l.filterMap (fun x => some (V.int (f x))) = (l.map f).map V.int := by rw [fm_map, List.map_map]; rfl
/-! cuts in the heap -/
def CuV (X : Addr → Prop) (K : PySem.W.Frag) (H : Hp) (v : V) (c : Int × List Int) : Prop := ∃ T q, v = .ref T ∧ SqT K H T [.int c.1, .ref q] ∧ ¬ X q ∧ H q = some (.lst (c.2.map V.int))
theorem CuV.lx {X : Addr → Prop} {K : PySem.W.Frag} {H H' : Hp} {v : V} {c : Int × List Int} (h : CuV X K H v c) (l : LX X H H') : CuV X K H' v c := by
  obtain ⟨T, q, e, h1, h2, h3⟩ := h; exact ⟨T, q, e, l.tk.sq h1, h2, l.ls _ _ h3 h2⟩
theorem CuV.weak {X X' : Addr → Prop} {K : PySem.W.Frag} {H : Hp} {v : V} {c : Int × List Int} (h : CuV X K H v c) (w : ∀ a, X' a → X a) : CuV X' K H v c := by
  obtain ⟨T, q, e, h1, h2, h3⟩ := h; exact ⟨T, q, e, h1, fun z => h2 (w _ z), h3⟩
theorem RtAll.at {K : PySem.W.Frag} {H : Hp} {vs : List V} {rs : List Rt} {j : Nat} {v : V} (h : RtAll K H vs rs) (hv : vs[j]? = some v) : ∃ r, rs[j]? = some r ∧ RtV K H v r := by
  have hj : j < rs.length := by rw [← h.1]; exact (List.getElem?_eq_some_iff.mp hv).1
  exact ⟨rs[j], List.getElem?_eq_getElem hj, h.2 j v _ hv (List.getElem?_eq_getElem hj)⟩
/-! the program's numbers -/
def spareL (cs : List Int) (gs : List Gp) : List Int := (cs.zip (rDem cs gs)).map fun q => q.1 - q.2
theorem spareL_len (cs : List Int) (gs : List Gp) : (spareL cs gs).length = cs.length := by simp [spareL, rDem_len]
theorem spareL_at {cs : List Int} {gs : List Gp} {p : Nat} (h : p < cs.length) : (spareL cs gs)[p]'(by rw [spareL_len]; exact h) = spOf cs gs p := by
  have hd : p < (rDem cs gs).length := by rw [rDem_len]; exact h
  have e : (spareL cs gs)[p]? = some (cs[p] - (rDem cs gs)[p]) := by
    unfold spareL
    rw [List.getElem?_map, (List.getElem?_zip_eq_some.mpr ⟨List.getElem?_eq_getElem h, List.getElem?_eq_getElem hd⟩ : (cs.zip (rDem cs gs))[p]? = some (cs[p], (rDem cs gs)[p]))]
    rfl
  have e2 : (spareL cs gs)[p]? = some ((spareL cs gs)[p]'(by rw [spareL_len]; exact h)) := List.getElem?_eq_getElem _
  rw [e] at e2
  rw [← Option.some.inj e2]
  unfold spOf
  rw [Int.toNat_natCast, List.getD_eq_getElem?_getD, List.getD_eq_getElem?_getD, List.getElem?_eq_getElem h, List.getElem?_eq_getElem hd]
  rfl
/-- the posts by their spare places -/
theorem spare_posts (cs : List Int) (gs : List Gp) (f : Int → Bool) : ((List.range (spareL cs gs).length).filterMap fun (k : Nat) => if f ((spareL cs gs).getD k 0) = true then some (k : Int) else none) = ((List.range cs.length).map (fun (k : Nat) => (k : Int))).filter (fun p => f (spOf cs gs p)) := by
  rw [spareL_len, List.filter_map]
  have : ∀ l : List Nat, (∀ k ∈ l, k < cs.length) → (l.filterMap fun (k : Nat) => if f ((spareL cs gs).getD k 0) = true then some (k : Int) else none) = (l.filter ((fun p => f (spOf cs gs p)) ∘ fun (k : Nat) => (k : Int))).map (fun (k : Nat) => (k : Int)) := by
    intro l
    induction l with
    | nil => intro _; rfl
    | cons k l ih =>
      intro h
      have hk := h k (by simp)
      have e : (spareL cs gs).getD k 0 = spOf cs gs k := by rw [List.getD_eq_getElem?_getD, List.getElem?_eq_getElem (by rw [spareL_len]; exact hk), Option.getD_some, spareL_at hk]
      have ih := ih fun k hk => h k (by simp [hk])
      by_cases hf : f (spOf cs gs k) = true
      · rw [List.filterMap_cons_some (b := (k : Int)) (by rw [e, if_pos hf]), ih, List.filter_cons_of_pos (by simpa using hf)]; rfl
      · rw [List.filterMap_cons_none (by rw [e, if_neg hf]), ih, List.filter_cons_of_neg (by simpa using hf)]
  exact this _ fun k hk => List.mem_range.mp hk
theorem cro_list (cs : List Int) (gs : List Gp) : rCro cs gs = ((List.range cs.length).map (fun (k : Nat) => (k : Int))).filter (fun p => decide (spOf cs gs p < 0)) := by
  unfold rCro sel
  rw [List.filter_map]
  congr 1
  apply List.filter_congr
  intro k hk
  have hk := List.mem_range.mp hk
  rw [Function.comp, List.getD_eq_getElem?_getD, List.getElem?_eq_getElem (by rw [rExc_len]; exact hk), Option.getD_some, (exc_get hk).1, decide_eq_decide]
  unfold mx
  split <;> omega
theorem feas0 {cs : List Int} {gs : List Gp} (ok : InsOk cs gs) (h : ∀ s ∈ subsL (nzP cs gs), 0 ≤ FS (nzP cs gs) (spOf cs gs) (mem s) (es0 cs gs)) : FeasI cs gs (es0 cs gs) := by
  refine ⟨fun m => ?_, fun p hp => ?_, ?_⟩
  · rw [← FS_mem (rin_es0 ok)]; exact h _ (subs_all m _)
  · have hp := cro_mem.mp hp
    unfold PS
    rw [sum_zero fun e he => ?_]
    · omega
    · obtain ⟨g, hg, rfl⟩ := List.mem_map.mp he
      unfold lP
      split
      · split <;> rfl
      · rfl
  · unfold ZS
    rw [sum_zero fun e he => ?_]
    · decide
    · obtain ⟨g, hg, rfl⟩ := List.mem_map.mp he
      unfold lZ
      split <;> rfl
theorem ZS0 (cs : List Int) (gs : List Gp) : ZS (es0 cs gs) = 0 := by
  unfold ZS
  rw [sum_zero fun e he => ?_]
  · rfl
  · obtain ⟨g, hg, rfl⟩ := List.mem_map.mp he
    unfold lZ
    split <;> rfl
theorem PS0 (cs : List Int) (gs : List Gp) (p : Int) : PS (spOf cs gs) p (es0 cs gs) = - spOf cs gs p := by
  unfold PS
  rw [sum_zero fun e he => ?_]
  · omega
  · obtain ⟨g, hg, rfl⟩ := List.mem_map.mp he
    unfold lP
    split
    · split <;> rfl
    · rfl
/-- the slack of a set of posts, as the program adds it up -/
theorem FS0 {cs : List Int} {gs : List Gp} {s : List Int} (hs : s ∈ subsL (nzP cs gs)) : FS (nzP cs gs) (spOf cs gs) (mem s) (es0 cs gs) = (s.map (spOf cs gs)).sum + ((gs.filter (fun g => decide (sg (mem s) (routeOf cs gs g) < 0))).map (fun g => g.2)).sum := by
  unfold FS spareS
  rw [subs_is (nz_nodup cs gs) hs]
  congr 1
  unfold es0
  rw [List.map_map]
  clear hs
  generalize routeOf cs gs = ro
  induction gs with
  | nil => rfl
  | cons g gs ih =>
    simp only [List.map_cons, List.sum_cons, Function.comp] at ih ⊢
    rw [ih]
    by_cases h : sg (mem s) (ro g) < 0
    · rw [List.filter_cons_of_pos (by simpa using h)]
      simp [wE, h]
    · rw [List.filter_cons_of_neg (by simpa using h)]
      have : wE (mem s) (ro g, 0, g.2) = 0 := by unfold wE; simp [h]
      rw [this]; omega
theorem sg_val (s : List Int) (r : Int × Option Int) : sg (mem s) (some r) = (if inV (oV r.2) (s.map V.int) = true then 1 else 0) - (if inV (.int r.1) (s.map V.int) = true then 1 else 0) := by
  have h1 : inV (.int r.1) (s.map V.int) = mem s r.1 := inV_ints _ _
  have h2 : inV (oV r.2) (s.map V.int) = inb (mem s) r.2 := by
    cases hr : r.2 with
    | none => exact inV_opt [] s
    | some y => exact inV_ints _ _
  rw [h1, h2]; rfl
theorem fmCongr {α β : Type} {f g : α → Option β} : ∀ {l : List α}, (∀ x ∈ l, f x = g x) → l.filterMap f = l.filterMap g
  | [], _ => rfl
  | x :: l, h => by
    have h1 := h x (by simp)
    have h2 := fmCongr (l := l) fun y hy => h y (by simp [hy])
    simp only [List.filterMap_cons, h1, h2]
def cutF (cs : List Int) (gs : List Gp) : List (Int × List Int) := [(0, (gs.map (routeOf cs gs)).map zSg)] ++ (rCro cs gs).map (fun p => (- spOf cs gs p, (gs.map (routeOf cs gs)).map (stSg p))) ++ (subsL (nzP cs gs)).map (fun s => (FS (nzP cs gs) (spOf cs gs) (mem s) (es0 cs gs), (gs.map (routeOf cs gs)).map (sg (mem s))))
theorem cutF_slk (cs : List Int) (gs : List Gp) : (cutF cs gs).map (fun c => c.1) = slk (nzP cs gs) (spOf cs gs) (rCro cs gs) (es0 cs gs) := by
  simp [cutF, slk, ZS0, PS0, Function.comp_def]
theorem cutF_sgn {cs : List Int} {gs : List Gp} {j : Nat} (hj : j < gs.length) : (cutF cs gs).map (fun c => c.2.getD j 0) = sgn (nzP cs gs) (rCro cs gs) (routeOf cs gs gs[j]) := by
  simp [cutF, sgn, Function.comp_def, List.getElem?_eq_getElem hj]
theorem cutF_len {cs : List Int} {gs : List Gp} {c : Int × List Int} (h : c ∈ cutF cs gs) : c.2.length = gs.length := by
  unfold cutF at h
  rcases List.mem_append.mp h with h | h
  · rcases List.mem_append.mp h with h | h
    · simp at h; subst h; simp
    · obtain ⟨p, _, rfl⟩ := List.mem_map.mp h; simp
  · obtain ⟨s, _, rfl⟩ := List.mem_map.mp h; simp
/-! lists in a list -/
def QV (X : Addr → Prop) (H : Hp) (v : V) (ns : List Int) : Prop := ∃ q, v = .ref q ∧ ¬ X q ∧ H q = some (.lst (ns.map V.int))
theorem QV.lx {X : Addr → Prop} {H H' : Hp} {v : V} {ns : List Int} (h : QV X H v ns) (l : LX X H H') : QV X H' v ns := by
  obtain ⟨q, e, h1, h2⟩ := h; exact ⟨q, e, h1, l.ls _ _ h2 h1⟩
theorem QV.rows {X : Addr → Prop} {H : Hp} {vs : List V} {nss : List (List Int)} (h : Rl (QV X H) vs nss) : ∃ rows : List Addr, vs = rows.map V.ref ∧ rows.length = nss.length ∧ ∀ (k : Nat) (q : Addr) (ns : List Int), rows[k]? = some q → nss[k]? = some ns → H q = some (.lst (ns.map V.int)) := by
  let f : V → Addr := fun v => match v with | .ref a => a | _ => 0
  have hv : vs = (vs.map f).map V.ref := by
    apply List.ext_getElem
    · simp
    · intro k h1 h2
      obtain ⟨ns, _, q, e, _⟩ := h.at (List.getElem?_eq_getElem h1)
      simp only [List.getElem_map]
      rw [e]
  refine ⟨vs.map f, hv, by rw [List.length_map, h.1], fun k q ns h1 h2 => ?_⟩
  rw [List.getElem?_map] at h1
  obtain ⟨v, hv', e⟩ := Option.map_eq_some_iff.mp h1
  obtain ⟨q', e', _, h3⟩ := h.2 k v ns hv' h2
  subst e'
  have : q' = q := e
  subst this
  exact h3
end Pv

namespace Pv
open PySem PySem.Spec PyProof.Rows L2
abbrev sSs : Stmt := topS 22
theorem scSs : FnScope ["routes", "post", "route"] ["routes", "post"] (defScope sSs) := ⟨rfl, rfl, rfl, by decide +kernel, rfl, by decide +kernel, by decide +kernel⟩
abbrev sAs : Stmt := topS 23
theorem scAs : FnScope ["posts", "found", "post", "part"] ["posts"] (defScope sAs) := ⟨rfl, rfl, rfl, by decide +kernel, rfl, by decide +kernel, by decide +kernel⟩
abbrev sOr : Stmt := topS 25
theorem scOr : FnScope ["slacks", "signs", "count", "least", "most", "slack", "sign"] ["slacks", "signs", "count"] (defScope sOr) := ⟨rfl, rfl, rfl, by decide +kernel, rfl, by decide +kernel, by decide +kernel⟩
section
variable {P : Program} {w : World} {K : PySem.W.Frag} {mg : Str → Option Value} {base : Heap}
def spSs (K : PySem.W.Frag) : Sp := fun vs H Q _ => ∃ (a : Addr) (rvs : List V) (rs : List Rt) (p : Int), vs = [.ref a, .int p] ∧ H a = some (.lst rvs) ∧ RtAll K H rvs rs ∧ rs.length ≤ 10 ∧ ∀ H' q, Same H H' → H' q = some (.lst ((rs.map (stSg p)).map V.int)) → H q = none → Q (.ref q) H'
set_option maxHeartbeats 4000000 in
theorem ok_Ss {f : Addr} {fd : FuncData} (F : Fun K "starting_signs" "starting_signs" sSs f fd)
     :
    FnOk P w K mg base CX0 1 f fd ["routes", "post"] (spSs K) := by
  refine F.ok scSs (fun vs H Q E h => ?_) (fun cdv A outer s H vs Q E hr h => ?_)
  · obtain ⟨a, rvs, rs, p, rfl, _⟩ := h; rfl
  · obtain ⟨a, rvs, rs, p, rfl, hA, hR, l10, q⟩ := h
    refine ⟨_, pss_one (ps_ret (pe_lc (own := [("route", 2)]) (g := gName 2) (tt := tYes) (te := tIf (tAnd (tB (tNotN (tVar 2))) (tTest (tOp rEq (tOp (rIxT K) (tVar 2) (tC (.int 0))) (tVar 1)))) (tC (.int 1)) (tC (.int 0))) rfl scSs.nd (pi_list (pv 0)) (blkOk_by (N := ["routes", "post", "route"]) (sc := defScope sSs) (by decide +kernel)) (fun _ _ _ _ _ => pg_name (i := 2) scSs.nd rfl (.inl rfl)) (fun _ _ _ _ _ => pts_nil) (fun _ _ _ _ _ => pe_ifExp (PW.pt (pw_and (pt_cmp (pc_notN (pv 2))) (pw_and1 (pt_cmpR op_eq (pe_ix ix_tup (pv 2) (pe_int) (fun _ _ => rfl)) (pv 1) (nomark _))))) (pe_int) (pe_int)))), ?_⟩
    refine ⟨.ref a, rfl, a, rfl, ⟨_, SqL.of hA⟩, fun D nD => lc_it (walk_list (K := K) (a := a) (xs := rvs))
      (LcP H D rs (fun r => some (.int (stSg p r)))) (.start nD) (fun j H2 _ h => SqL.of (h.1 _ _ hA)) ?_ ?_⟩
    · rintro j v H2 H3 hlt hL ⟨rfl, hv⟩
      have hv : rvs[j]? = some v := hv
      obtain ⟨r, hr, hrt⟩ := RtAll.at hR hv
      have hj : j ≤ 1000000 := by have := hR.1; omega
      cases r with
      | none =>
        obtain rfl : v = .non := hrt
        exact ⟨rfl, .non, rfl, _, rfl, iteFF (by simp) (iteF (hL.yes nD (Same.refl _) hr rfl hj))⟩
      | some r =>
        obtain ⟨T, rfl, hT⟩ := hrt
        refine ⟨rfl, .ref T, rfl, _, rfl, iteTT (by simp) ⟨.ref T, rfl, T, _, 0, .int r.1, rfl, rfl, sqS hL.1 hT, atI_nat (j := 0) rfl, .int p, rfl, rfl, _, rfl, ?_⟩⟩
        by_cases h1 : r.1 = p
        · exact iteTT (by simp [h1]) (hL.yes nD (Same.refl _) hr (by simp [stSg, h1]) hj)
        · exact iteFF (by simp [h1]) (hL.yes nD (Same.refl _) hr (by simp [stSg, h1]) hj)
    rintro H2 hL
    have e2 := hL.done (Nat.le_of_eq hR.1.symm)
    have em : rs.filterMap (fun r => some (V.int (stSg p r))) = (rs.map (stSg p)).map V.int := by rw [fm_map, List.map_map]; rfl
    rw [em] at e2
    exact q _ D hL.1 e2 nD
def spAs (K : PySem.W.Frag) : Sp := fun vs H Q _ => ∃ (a : Addr) (ps : List Int), vs = [.ref a] ∧ H a = some (.lst (ps.map V.int)) ∧ ps.length ≤ 6 ∧ ∀ H' p vs, Same H H' → H' p = some (.lst vs) → Rl (TuV K H') vs (subsL ps) → vs.length ≤ 64 → (∀ s ∈ subsL ps, s.length ≤ 6) → H p = none → Q (.ref p) H'
set_option maxHeartbeats 4000000 in
theorem ok_As {f : Addr} {fd : FuncData} (F : Fun K "all_subsets" "all_subsets" sAs f fd)
     :
    FnOk P w K mg base CX0 1 f fd ["posts"] (spAs K) := by
  refine F.ok scAs (fun vs H Q E h => ?_) (fun cdv A outer s H vs Q E hr h => ?_)
  · obtain ⟨a, ps, rfl, _⟩ := h; rfl
  · obtain ⟨a, ps, rfl, hA, l6, q⟩ := h
    refine ⟨_, pss_cons (ps_set (i := 1) scAs.nd rfl (.inl rfl) (pe_lst (pa_cons (pe_tup (pa_nil)) pa_nil)))
      (pss_cons (ps_for PassesOwn.never rfl (pi_list (pv 0)) (pg_name (i := 2) scAs.nd rfl (.inr rfl))
        (pss_one (ps_set (i := 1) scAs.nd rfl (.inl rfl) (pe_op op_cat (pv 1) (pe_lc (own := [("part", 3)]) (g := gName 3) (tt := tYes) (te := tOp (rCatA K) (tVar 3) (tTup (tCons (tVar 2) tNil))) rfl scAs.nd (pi_list (pv 1)) (blkOk_by (N := ["posts", "found", "post", "part"]) (sc := defScope sAs) (by decide +kernel)) (fun _ _ _ _ _ => pg_name (i := 3) scAs.nd rfl (.inl rfl)) (fun _ _ _ _ _ => pts_nil) (fun _ _ _ _ _ => pe_op op_catA (pv 3) (pe_tup (pa_cons (pv 2) pa_nil))))))))
      (pss_one (ps_ret (pv 1)))), ?_⟩
    refine ⟨Nat.zero_le _, fun T0 nT0 => ⟨(show (1 : Nat) ≤ sizeLine by decide), fun Fo nFo => ?_⟩⟩
    have sF := (sameNew (o := .tup []) nT0).trans (sameNew (o := .lst [.ref T0]) nFo)
    refine ⟨.ref a, rfl, a, rfl, ⟨_, SqL.of (sF _ _ hA)⟩, for_it (walk_list (K := K) (a := a) (xs := ps.map V.int))
      (fun j σ H3 => ∃ (Fj : Addr) (y2 : Option V) (vs : List V), σ = [some (.ref a), some (.ref Fj), y2, none] ∧ Same H H3 ∧ H3 Fj = some (.lst vs) ∧ Rl (TuV K H3) vs (subsL (ps.take j)) ∧ vs.length ≤ 2 ^ j ∧ (∀ s ∈ subsL (ps.take j), s.length ≤ j) ∧ H Fj = none)
      ⟨Fo, none, [.ref T0], rfl, sF, upd_same, ⟨rfl, ?_⟩, by simp, fun s hs => (by simp [subsL] at hs; subst hs; simp), freeOf nFo⟩ (fun j σ H3 _ h => by obtain ⟨_, _, _, _, s3, _⟩ := h; exact SqL.of (s3 _ _ hA)) ?_ ?_⟩
    · intro j v r h1 h2
      cases j with
      | zero => simp [subsL] at h1 h2; subst h1; subst h2; exact ⟨T0, rfl, SqT.of (upNew nFo upd_same)⟩
      | succ j => simp at h1
    · rintro j v σ H3 H4 hlt ⟨Fj, y2, vs, rfl, s3, e3, hv3, l3, b3, fF⟩ ⟨rfl, hv⟩
      have hv : (ps.map V.int)[j]? = some v := hv
      rw [List.getElem?_map] at hv
      obtain ⟨p, hp, rfl⟩ := Option.map_eq_some_iff.mp hv
      rw [List.length_map] at hlt
      have l3' : vs.length ≤ 64 := Nat.le_trans l3 (Nat.le_trans (Nat.pow_le_pow_right (by decide) (show j ≤ 6 by omega)) (by decide))
      refine ⟨.ref Fj, rfl, .ref Fj, rfl, Fj, rfl, ⟨_, SqL.of e3⟩, fun D nD => lc_it (walk_list (K := K) (a := Fj) (xs := vs))
        (LcR (TuV K) H4 D (subsL (ps.take j)) (fun s => some (s ++ [p]))) (.start nD) (fun k H _ h => SqL.of (h.1 _ _ e3)) ?_ ?_⟩
      · rintro k v H5 H6 hk hL ⟨rfl, hv⟩
        have hv : vs[k]? = some v := hv
        obtain ⟨s', hs', Tn, rfl, hTn⟩ := hv3.at hv
        have hsl := b3 s' (List.mem_of_getElem? hs')
        refine ⟨rfl, .ref Tn, rfl, .int p, rfl, (show (1 : Nat) ≤ sizeLine by decide), fun N nN => cat_eq (sqS (hL.1.trans (sameNew nN)) hTn) (SqT.of upd_same) (by rw [List.length_map]; exact small6 (by simp; omega)) (fun H9 pp s9 hpp => ?_)⟩
        exact hL.yes (fun _ _ _ _ tk h => h.tk tk) nD ((sameNew nN).trans s9) hs' rfl ⟨pp, rfl, by rw [List.map_append]; exact hpp⟩ (by omega)
      rintro H5 hL
      obtain ⟨ws, e5, hw5⟩ := hL.done (Nat.le_of_eq hv3.1.symm)
      have em : (subsL (ps.take j)).filterMap (fun s => some (s ++ [p])) = (subsL (ps.take j)).map (fun s => s ++ [p]) := by
        generalize subsL (ps.take j) = l
        induction l with
        | nil => rfl
        | cons x l ih => simp [ih]
      rw [em] at hw5
      have lw : ws.length = vs.length := by rw [hw5.1, List.length_map, hv3.1]
      refine ⟨Fj, D, _, _, rfl, rfl, hL.1 _ _ e3, e5, small6 (by omega), fun N nN => ?_⟩
      have sN := sameNew (o := .lst (vs ++ ws)) nN
      have hsub : subsL (ps.take (j + 1)) = subsL (ps.take j) ++ (subsL (ps.take j)).map (fun s => s ++ [p]) := by rw [take_snoc hp, subsL_snoc]
      refine ⟨N, _, vs ++ ws, rfl, (s3.trans hL.1).trans sN, upd_same, ?_, by rw [List.length_append, Nat.pow_succ]; omega, ?_, ?_⟩
      · rw [hsub]
        exact (hv3.mono fun v r h => h.tk (.of (hL.1.trans sN))).app (hw5.mono fun v r h => h.tk (.of sN))
      · intro s' hs'
        rw [hsub] at hs'
        rcases List.mem_append.mp hs' with h | h
        · have := b3 s' h; omega
        · obtain ⟨t, ht, rfl⟩ := List.mem_map.mp h
          have := b3 t ht
          simp; omega
      · cases e : H N with
        | none => rfl
        | some o => have := (s3.trans hL.1) _ _ e; rw [nN] at this; cases this
    · rintro σ H3 ⟨Fj, y2, vs, rfl, s3, e3, hv3, l3, b3, fF⟩
      rw [List.length_map, List.take_length] at hv3 b3
      rw [List.length_map] at l3
      have l3' : vs.length ≤ 64 := Nat.le_trans l3 (Nat.le_trans (Nat.pow_le_pow_right (by decide) l6) (by decide))
      exact ⟨_, rfl, q _ Fj vs s3 e3 hv3 l3' (fun s hs => Nat.le_trans (b3 s hs) l6) fF⟩
def spOr (K : PySem.W.Frag) : Sp := fun vs H Q _ => ∃ (sl sn : Addr) (sls sgs : List Int) (c : Int), vs = [.ref sl, .ref sn, .int c] ∧ H sl = some (.lst (sls.map V.int)) ∧ SqT K H sn (sgs.map V.int) ∧ sls.length ≤ 999 ∧ ∀ (H' : Hp) (T : Addr) (a b : Int), IsMax a (0 :: lows sls sgs c) → IsMin b (c :: highs sls sgs) → Same H H' → H' T = some (.tup [.int a, .int b]) → Q (.ref T) H'
set_option maxHeartbeats 4000000 in
theorem ok_Or {f : Addr} {fd : FuncData} (F : Fun K "open_range" "open_range" sOr f fd)
    (m_zip : mg "zip" = none) (m_max : mg "max" = none) (m_min : mg "min" = none) :
    FnOk P w K mg base CX0 1 f fd ["slacks", "signs", "count"] (spOr K) := by
  refine F.ok scOr (fun vs H Q E h => ?_) (fun cdv A outer s H vs Q E hr h => ?_)
  · obtain ⟨sl, sn, sls, sgs, c, rfl, _⟩ := h; rfl
  · obtain ⟨sl, sn, sls, sgs, c, rfl, hS, hG, hl, q⟩ := h
    refine ⟨_, pss_cons (ps_set (i := 3) scOr.nd rfl (.inl rfl) (pe_callB (cr_max rfl) (by rfl) m_max (by decide +kernel) (pa_cons (pe_op op_cat (pe_lst (pa_cons (pe_int) pa_nil)) (pe_lc (own := [("slack", 5), ("sign", 6)]) (g := gTup K 2 (gCons (gName 5) (gCons (gName 6) gNil))) (tt := tTest (tOp (rI0 fun i j => .bl (decide (i < j))) (tVar 6) (tC (.int 0)))) (te := tOp (rI0 fun i j => .int (i - j)) (tVar 2) (tVar 5)) rfl scOr.nd (pi_zipM (by rfl) m_zip (pa_cons (pv 0) (pa_cons (pv 1) pa_nil))) (blkOk_by (N := ["slacks", "signs", "count", "least", "most", "slack", "sign"]) (sc := defScope sOr) (by decide +kernel)) (fun _ _ _ _ _ => pg_tup rfl (pgs_cons (pg_name (i := 5) scOr.nd rfl (.inl rfl)) (pgs_cons (pg_name (i := 6) scOr.nd rfl (.inl rfl)) pgs_nil))) (fun _ _ _ _ _ => pts_one (pt_cmpR op_lt (pv 6) (pe_int) (nomark _))) (fun _ _ _ _ _ => pe_op op_sub (pv 2) (pv 5)))) pa_nil)))
      (pss_cons (ps_set (i := 4) scOr.nd rfl (.inl rfl) (pe_callB (cr_min rfl) (by rfl) m_min (by decide +kernel) (pa_cons (pe_op op_cat (pe_lst (pa_cons (pv 2) pa_nil)) (pe_lc (own := [("slack", 5), ("sign", 6)]) (g := gTup K 2 (gCons (gName 5) (gCons (gName 6) gNil))) (tt := tTest (tOp (rI0 fun i j => .bl (decide (j < i))) (tVar 6) (tC (.int 0)))) (te := tVar 5) rfl scOr.nd (pi_zipM (by rfl) m_zip (pa_cons (pv 0) (pa_cons (pv 1) pa_nil))) (blkOk_by (N := ["slacks", "signs", "count", "least", "most", "slack", "sign"]) (sc := defScope sOr) (by decide +kernel)) (fun _ _ _ _ _ => pg_tup rfl (pgs_cons (pg_name (i := 5) scOr.nd rfl (.inl rfl)) (pgs_cons (pg_name (i := 6) scOr.nd rfl (.inl rfl)) pgs_nil))) (fun _ _ _ _ _ => pts_one (pt_cmpR op_gt (pv 6) (pe_int) (nomark _))) (fun _ _ _ _ _ => pv 5))) pa_nil)))
      (pss_one (ps_ret (pe_tup (pa_cons (pv 3) (pa_cons (pv 4) pa_nil)))))), ?_⟩
    refine ⟨(show (1 : Nat) ≤ sizeLine by decide), fun Z0 nZ0 => ?_⟩
    have s0 := sameNew (o := .lst [.int 0]) nZ0
    refine ⟨.ref sl, rfl, .ref sn, rfl, sl, sn, _, _, rfl, SqL.of (s0 _ _ hS), sqS s0 hG, fun D nD => lc_it (walk_zipM (K := K) (a := sl) (b := sn) (xs := sls.map V.int) (ys := sgs.map V.int) rfl)
      (LcP _ D (sls.zip sgs) (fun z => if decide (z.2 < 0) = true then some (.int (c - z.1)) else none)) (.start nD) (fun j H2 _ h => ⟨SqL.of ((s0.trans h.1) _ _ hS), sqS (s0.trans h.1) hG⟩) ?_ ?_⟩
    · rintro j v H2 H3 hlt hL ⟨T, x, y, rfl, nT, rfl, ex, ey⟩
      rw [List.length_map, List.length_map] at hlt
      have hj1 : j < sls.length := by omega
      have hj2 : j < sgs.length := by omega
      have ex : (sls.map V.int)[j]? = some x := ex
      have ey : (sgs.map V.int)[j]? = some y := ey
      rw [atS hj1] at ex
      rw [atS hj2] at ey
      cases ex
      cases ey
      have hz : (sls.zip sgs)[j]? = some (sls[j], sgs[j]) := by rw [List.getElem?_zip_eq_some]; exact ⟨List.getElem?_eq_getElem hj1, List.getElem?_eq_getElem hj2⟩
      refine ⟨T, _, rfl, SqT.of upd_same, rfl, _, _, rfl, _, _, rfl, rfl, rfl, .int sgs[j], rfl, _, _, rfl, rfl, _, rfl, ite2 (fun h1 => ?_) (fun h1 => ?_)⟩
      · exact ⟨.int c, rfl, .int sls[j], rfl, _, _, rfl, rfl, hL.yes nD (sameNew nT) hz (if_pos h1) (by omega)⟩
      · exact hL.no (sameNew nT) hz (if_neg h1)
    rintro H2 hL
    have e2 := hL.done (by rw [List.length_zip, List.length_map, List.length_map]; exact Nat.le_refl _)
    have em : (sls.zip sgs).filterMap (fun z => if decide (z.2 < 0) = true then some (V.int (c - z.1)) else none) = (lows sls sgs c).map V.int := by rw [fm_filter]; unfold lows; rw [List.map_map]; rfl
    rw [em] at e2
    have s02 := s0.trans hL.1
    have hll : (lows sls sgs c).length ≤ 1000 := by unfold lows; rw [List.length_map]; exact Nat.le_trans (List.length_filter_le _ _) (by rw [List.length_zip]; omega)
    refine ⟨Z0, D, [.int 0], _, rfl, rfl, hL.1 _ _ upd_same, e2, (by rw [List.length_map]; exact small6 (by simp; omega)), fun C1 nC1 => ?_⟩
    have sC := sameNew (o := .lst ([V.int 0] ++ (lows sls sgs c).map V.int)) nC1
    refine ⟨C1, 0 :: lows sls sgs c, rfl, SqL.of upd_same, by simp, fun a ha1 ha2 => ?_⟩
    have s3 := s02.trans sC
    generalize upd H2 C1 (.lst ([V.int 0] ++ (lows sls sgs c).map V.int)) = H3 at s3
    refine ⟨.int c, rfl, (show (1 : Nat) ≤ sizeLine by decide), fun Z1 nZ1 => ?_⟩
    have s4 := s3.trans (sameNew (o := .lst [.int c]) nZ1)
    refine ⟨.ref sl, rfl, .ref sn, rfl, sl, sn, _, _, rfl, SqL.of (s4 _ _ hS), sqS s4 hG, fun D2 nD2 => lc_it (walk_zipM (K := K) (a := sl) (b := sn) (xs := sls.map V.int) (ys := sgs.map V.int) rfl)
      (LcP _ D2 (sls.zip sgs) (fun z => if decide (0 < z.2) = true then some (.int z.1) else none)) (.start nD2) (fun j H2 _ h => ⟨SqL.of ((s4.trans h.1) _ _ hS), sqS (s4.trans h.1) hG⟩) ?_ ?_⟩
    · rintro j v H2 H3 hlt hL ⟨T, x, y, rfl, nT, rfl, ex, ey⟩
      rw [List.length_map, List.length_map] at hlt
      have hj1 : j < sls.length := by omega
      have hj2 : j < sgs.length := by omega
      have ex : (sls.map V.int)[j]? = some x := ex
      have ey : (sgs.map V.int)[j]? = some y := ey
      rw [atS hj1] at ex
      rw [atS hj2] at ey
      cases ex
      cases ey
      have hz : (sls.zip sgs)[j]? = some (sls[j], sgs[j]) := by rw [List.getElem?_zip_eq_some]; exact ⟨List.getElem?_eq_getElem hj1, List.getElem?_eq_getElem hj2⟩
      refine ⟨T, _, rfl, SqT.of upd_same, rfl, _, _, rfl, _, _, rfl, rfl, rfl, .int sgs[j], rfl, _, _, rfl, rfl, _, rfl, ite2 (fun h1 => ?_) (fun h1 => ?_)⟩
      · exact ⟨.int sls[j], rfl, hL.yes nD2 (sameNew nT) hz (if_pos h1) (by omega)⟩
      · exact hL.no (sameNew nT) hz (if_neg h1)
    rintro H5 hL5
    have e5 := hL5.done (by rw [List.length_zip, List.length_map, List.length_map]; exact Nat.le_refl _)
    have em5 : (sls.zip sgs).filterMap (fun z => if decide (0 < z.2) = true then some (V.int z.1) else none) = (highs sls sgs).map V.int := by rw [fm_filter]; unfold highs; rw [List.map_map]; rfl
    rw [em5] at e5
    have hlh : (highs sls sgs).length ≤ 1000 := by unfold highs; rw [List.length_map]; exact Nat.le_trans (List.length_filter_le _ _) (by rw [List.length_zip]; omega)
    refine ⟨Z1, D2, [.int c], _, rfl, rfl, hL5.1 _ _ upd_same, e5, (by rw [List.length_map]; exact small6 (by simp; omega)), fun C2 nC2 => ?_⟩
    have sC2 := sameNew (o := .lst ([V.int c] ++ (highs sls sgs).map V.int)) nC2
    refine ⟨C2, c :: highs sls sgs, rfl, SqL.of upd_same, by simp, fun b hb1 hb2 => ?_⟩
    have s6 := (s4.trans hL5.1).trans sC2
    generalize upd H5 C2 (.lst ([V.int c] ++ (highs sls sgs).map V.int)) = H6 at s6
    refine ⟨.int a, rfl, .int b, rfl, (show (2 : Nat) ≤ sizeLine by decide), fun T nT => ?_⟩
    exact q _ T a b ⟨ha1, ha2⟩ ⟨hb1, hb2⟩ (s6.trans (sameNew nT)) upd_same
end
end Pv

namespace Pv
open PySem PySem.Spec PyProof.Rows L2
abbrev sSc : Stmt := topS 24
theorem scSc : FnScope ["instance", "spare", "routes", "inside", "signs", "slack", "crowded", "route", "post", "posts", "count", "sign"] ["instance", "spare", "routes", "inside"] (defScope sSc) := ⟨rfl, rfl, rfl, by decide +kernel, rfl, by decide +kernel, by decide +kernel⟩
section
variable {P : Program} {w : World} {K : PySem.W.Frag} {mg : Str → Option Value} {base : Heap}
def spSc (K : PySem.W.Frag) (C : Addr) : Sp := fun vs H Q E => ∃ (i sp ro ins : Addr) (cs : List Int) (gs : List Gp) (rvs : List V) (ss : List Int), vs = [.ref i, .ref sp, .ref ro, .ref ins] ∧ Dp K H (.ref i) (dInst cs gs) ∧ InsOk cs gs ∧ H sp = some (.lst ((spareL cs gs).map V.int)) ∧ H ro = some (.lst rvs) ∧ RtAll K H rvs (gs.map (routeOf cs gs)) ∧ SqT K H ins (ss.map V.int) ∧ ss ∈ subsL (nzP cs gs) ∧ ss.length ≤ 6 ∧
  (0 ≤ FS (nzP cs gs) (spOf cs gs) (mem ss) (es0 cs gs) → ∀ H' T q, Same H H' → H' T = some (.tup [.int (FS (nzP cs gs) (spOf cs gs) (mem ss) (es0 cs gs)), .ref q]) → H' q = some (.lst (((gs.map (routeOf cs gs)).map (sg (mem ss))).map V.int)) → H q = none → Q (.ref T) H') ∧
  (FS (nzP cs gs) (spOf cs gs) (mem ss) (es0 cs gs) < 0 → ∀ H' d ca ra, Same H H' → H' d = none → TuV K H' (.ref ca) (ss.filter fun p => decide (spOf cs gs p < 0)) → TuV K H' (.ref ra) (ss.filter fun p => decide (0 < spOf cs gs p)) → E (.ref C) (some d) (upd H' d (.xd [("reserves", .ref ra), ("crowded", .ref ca)])))
set_option maxHeartbeats 8000000 in
theorem ok_Sc {f : Addr} {fd : FuncData} (F : Fun K "set_cut" "set_cut" sSc f fd)
    {cNU : Addr} {fiNU : Addr} {fdiNU : FuncData} (gNU : mg "NoUnbeaten" = some (.ref cNU)) (XNU : XF2 K cNU fiNU "crowded" "reserves") (GiNU : FnOk P w K mg base CX0 1 fiNU fdiNU ["self", "crowded", "reserves"] (spI2 cNU "crowded" "reserves")) (biNU : Binds K fdiNU ["self", "crowded", "reserves"] [])
    (m_int : mg "int" = none) (m_sum : mg "sum" = none) (m_zip : mg "zip" = none) (m_tuple : mg "tuple" = none) :
    FnOk P w K mg base (L2.CX P w) 3 f fd ["instance", "spare", "routes", "inside"] (spSc K cNU) := by
  refine F.okX scSc (fun vs H Q E h => ?_) (fun cdv A outer s H vs Q E hr h => ?_)
  · obtain ⟨i, sp, ro, ins, cs, gs, rvs, ss, rfl, _⟩ := h; rfl
  · obtain ⟨i, sp, ro, ins, cs, gs, rvs, ss, rfl, hI, ok, hSp, hRo, hR, hIns, hss, l6, q⟩ := h
    refine ⟨_, pss_cons (ps_setLc (i := 4) (own := [("route", 7)]) (g := gName 7) (tt := tYes) (te := tIf (tB (tIsN (tVar 7))) (tC (.int 0)) (tOp (rI0 fun i j => .int (i - j)) (tCB (fun xs H Q => (∃ i, xs = [.int i] ∧ Q (.int i) H) ∨ ∃ k, xs = [.bl k] ∧ Q (.int (if k then 1 else 0)) H) (tCons (tOp (rIn K false) (tOp (rIxT K) (tVar 7) (tC (.int 1))) (tVar 3)) tNil)) (tCB (fun xs H Q => (∃ i, xs = [.int i] ∧ Q (.int i) H) ∨ ∃ k, xs = [.bl k] ∧ Q (.int (if k then 1 else 0)) H) (tCons (tOp (rIn K false) (tOp (rIxT K) (tVar 7) (tC (.int 0))) (tVar 3)) tNil)))) rfl scSc.nd rfl rfl (sw_true rfl rfl rfl (by decide +kernel)) (pi_list (pv 2)) (blkOk_by (N := ["instance", "spare", "routes", "inside", "signs", "slack", "crowded", "route", "post", "posts", "count", "sign"]) (sc := defScope sSc) (by decide +kernel)) (fun _ _ _ _ _ => pg_name (i := 7) scSc.nd rfl (.inl rfl)) (fun _ _ _ _ _ => pts_nil) (fun _ _ _ _ _ => pe_ifExp (pt_cmp (pc_isN (pv 7))) (pe_int) (pe_op op_sub (pe_callTy call_int1 (by rfl) m_int (by decide +kernel) (pa_cons (pe_cmpR op_in_seq (pe_ix ix_tup (pv 7) (pe_int) (fun _ _ => rfl)) (pv 3) (by rfl)) pa_nil)) (pe_callTy call_int1 (by rfl) m_int (by decide +kernel) (pa_cons (pe_cmpR op_in_seq (pe_ix ix_tup (pv 7) (pe_int) (fun _ _ => rfl)) (pv 3) (by rfl)) pa_nil)))))
      (pss_cons (ps_set (i := 5) scSc.nd rfl (.inl rfl) (pe_callB (cr_sum rfl) (by rfl) m_sum (by decide +kernel) (pa_cons (pe_lc (own := [("post", 8)]) (g := gName 8) (tt := tYes) (te := tOp (rIxL K) (tVar 1) (tVar 8)) rfl scSc.nd (pi_tup (pv 3)) (blkOk_by (N := ["instance", "spare", "routes", "inside", "signs", "slack", "crowded", "route", "post", "posts", "count", "sign"]) (sc := defScope sSc) (by decide +kernel)) (fun _ _ _ _ _ => pg_name (i := 8) scSc.nd rfl (.inl rfl)) (fun _ _ _ _ _ => pts_nil) (fun _ _ _ _ _ => pe_ix ix_list (pv 1) (pv 8) (fun _ _ => rfl))) pa_nil)))
      (pss_cons (ps_aug (i := 5) scSc.nd rfl (.inl rfl) (pe_callB (cr_sum rfl) (by rfl) m_sum (by decide +kernel) (pa_cons (pe_lc (own := [("posts", 9), ("count", 10), ("sign", 11)]) (g := gTup K 2 (gCons (gTup K 2 (gCons (gName 9) (gCons (gName 10) gNil))) (gCons (gName 11) gNil))) (tt := tTest (tOp (rI0 fun i j => .bl (decide (i < j))) (tVar 11) (tC (.int 0)))) (te := tVar 10) rfl scSc.nd (pi_zipN (by rfl) m_zip (pa_cons (pe_ix ix_tup (pv 0) (pe_int) (fun _ _ => rfl)) (pa_cons (pv 4) pa_nil))) (blkOk_by (N := ["instance", "spare", "routes", "inside", "signs", "slack", "crowded", "route", "post", "posts", "count", "sign"]) (sc := defScope sSc) (by decide +kernel)) (fun _ _ _ _ _ => pg_tup rfl (pgs_cons (pg_tup rfl (pgs_cons (pg_name (i := 9) scSc.nd rfl (.inl rfl)) (pgs_cons (pg_name (i := 10) scSc.nd rfl (.inl rfl)) pgs_nil))) (pgs_cons (pg_name (i := 11) scSc.nd rfl (.inl rfl)) pgs_nil))) (fun _ _ _ _ _ => pts_one (pt_cmpR op_lt (pv 11) (pe_int) (nomark _))) (fun _ _ _ _ _ => pv 10)) pa_nil)) ip_add)
      (pss_cons (ps_if (pt_cmpR op_lt (pv 5) (pe_int) (nomark _))
        (pss_cons (ps_set (i := 6) scSc.nd rfl (.inl rfl) (pe_callTy call_tupQ (by rfl) m_tuple (by decide +kernel) (pa_cons (pe_lc (own := [("post", 8)]) (g := gName 8) (tt := tTest (tOp (rI0 fun i j => .bl (decide (i < j))) (tOp (rIxL K) (tVar 1) (tVar 8)) (tC (.int 0)))) (te := tVar 8) rfl scSc.nd (pi_tup (pv 3)) (blkOk_by (N := ["instance", "spare", "routes", "inside", "signs", "slack", "crowded", "route", "post", "posts", "count", "sign"]) (sc := defScope sSc) (by decide +kernel)) (fun _ _ _ _ _ => pg_name (i := 8) scSc.nd rfl (.inl rfl)) (fun _ _ _ _ _ => pts_one (pt_cmpR op_lt (pe_ix ix_list (pv 1) (pv 8) (fun _ _ => rfl)) (pe_int) (nomark _))) (fun _ _ _ _ _ => pv 8)) pa_nil)))
        (pss_one (ps_raise rfl (takes_of rfl rfl rfl rfl) (pmk_oex XNU.T XNU.iC XNU.tI GiNU (hr.mono (by omega)) biNU .nil pass0 (by rfl) gNU (pa_cons (pv 6) (pa_cons (pe_callTy call_tupQ (by rfl) m_tuple (by decide +kernel) (pa_cons (pe_lc (own := [("post", 8)]) (g := gName 8) (tt := tTest (tOp (rI0 fun i j => .bl (decide (j < i))) (tOp (rIxL K) (tVar 1) (tVar 8)) (tC (.int 0)))) (te := tVar 8) rfl scSc.nd (pi_tup (pv 3)) (blkOk_by (N := ["instance", "spare", "routes", "inside", "signs", "slack", "crowded", "route", "post", "posts", "count", "sign"]) (sc := defScope sSc) (by decide +kernel)) (fun _ _ _ _ _ => pg_name (i := 8) scSc.nd rfl (.inl rfl)) (fun _ _ _ _ _ => pts_one (pt_cmpR op_gt (pe_ix ix_list (pv 1) (pv 8) (fun _ _ => rfl)) (pe_int) (nomark _))) (fun _ _ _ _ _ => pv 8)) pa_nil)) pa_nil)))))) pss_nil)
      (pss_one (ps_ret (pe_tup (pa_cons (pv 5) (pa_cons (pv 4) pa_nil)))))))), ?_⟩
    obtain ⟨_, ca, ga, xs, e, hi, hc, hgt, hgs⟩ := inst_open hI
    cases e
    have lx := DpAll.len hgs
    rw [List.length_map] at lx
    have h10 := ok.g10
    have hsN : ∀ p ∈ ss, ∃ pn : Nat, p = pn ∧ pn < cs.length := fun p hp => by
      rw [← subs_is (nz_nodup cs gs) hss] at hp
      have := nz_mem.mp (List.mem_filter.mp hp).1
      exact ⟨p.toNat, by omega, by omega⟩
    have lrs := hR.1
    rw [List.length_map] at lrs
    -- signs
    refine ⟨.ref ro, rfl, ro, rfl, ⟨_, SqL.of hRo⟩, fun D nD => lc_it (walk_list (K := K) (a := ro) (xs := rvs))
      (LcP H D (gs.map (routeOf cs gs)) (fun r => some (.int (sg (mem ss) r)))) (.start nD) (fun j H2 _ h => SqL.of (h.1 _ _ hRo)) ?_ ?_⟩
    · rintro j v H2 H3 hlt hL ⟨rfl, hv⟩
      have hv : rvs[j]? = some v := hv
      obtain ⟨r, hr, hrt⟩ := RtAll.at hR hv
      cases r with
      | none =>
        obtain rfl : v = .non := hrt
        exact ⟨rfl, .non, rfl, _, rfl, iteTT (by simp) (hL.yes nD (Same.refl _) hr rfl (by omega))⟩
      | some r =>
        obtain ⟨T, rfl, hT⟩ := hrt
        have hI3 := sqS hL.1 hIns
        refine ⟨rfl, .ref T, rfl, _, rfl, iteFF (by simp) ⟨.ref T, rfl, T, _, 1, oV r.2, rfl, rfl, sqS hL.1 hT, atI_nat (j := 1) rfl, .ref ins, rfl, ins, _, rfl, .inr hI3, by cases r.2 <;> rfl, flat_ints _, .inr ⟨_, rfl, ?_⟩⟩⟩
        refine ⟨.ref T, rfl, T, _, 0, .int r.1, rfl, rfl, sqS hL.1 hT, atI_nat (j := 0) rfl, .ref ins, rfl, ins, _, rfl, .inr hI3, rfl, flat_ints _, .inr ⟨_, rfl, _, _, rfl, rfl, hL.yes nD (Same.refl _) hr (by rw [sg_val]; rfl) (by omega)⟩⟩
    rintro H2 hL
    have e2 := hL.done (Nat.le_of_eq hR.1.symm)
    have em : (gs.map (routeOf cs gs)).filterMap (fun r => some (V.int (sg (mem ss) r))) = ((gs.map (routeOf cs gs)).map (sg (mem ss))).map V.int := fm_mapI _ _
    rw [em] at e2
    have s2 := hL.1
    -- the sum of spare places
    refine ⟨.ref ins, rfl, ins, rfl, ⟨_, sqS s2 hIns⟩, fun D2 nD2 => lc_it (walk_tup (K := K) (a := ins) (xs := ss.map V.int))
      (LcP H2 D2 ss (fun p => some (.int (spOf cs gs p)))) (.start nD2) (fun j H3 _ h => sqS (s2.trans h.1) hIns) ?_ ?_⟩
    · rintro j v H3 H4 hlt hM ⟨rfl, hv⟩
      have hv : (ss.map V.int)[j]? = some v := hv
      rw [List.getElem?_map] at hv
      obtain ⟨p, hp, rfl⟩ := Option.map_eq_some_iff.mp hv
      obtain ⟨pn, rfl, hpn⟩ := hsN p (List.mem_of_getElem? hp)
      rw [List.length_map] at hlt
      exact ⟨rfl, .ref sp, rfl, .int (pn : Nat), rfl, sp, _, _, _, rfl, rfl, SqL.of ((s2.trans hM.1) _ _ hSp), atI_nat (atS (by rw [spareL_len]; exact hpn)), hM.yes nD2 (Same.refl _) hp (by rw [spareL_at hpn]) (by omega)⟩
    rintro H3 hM
    have e3 := hM.done (by rw [List.length_map]; exact Nat.le_refl _)
    have em3 : ss.filterMap (fun p => some (V.int (spOf cs gs p))) = (ss.map (spOf cs gs)).map V.int := by rw [fm_map, List.map_map]; rfl
    rw [em3] at e3
    have s3 := s2.trans hM.1
    have eD3 := hM.1 _ _ e2
    refine ⟨D2, _, rfl, SqL.of e3, ?_⟩
    -- the counts of those who leave
    refine ⟨_, rfl, .ref i, rfl, i, _, 1, .ref ga, rfl, rfl, sqS s3 hi, atI_nat (j := 1) rfl, .ref D, rfl, ga, D, _, _, rfl, sqS s3 hgt, SqL.of eD3, fun D3 nD3 => lc_it (walk_zipN (K := K) (a := ga) (b := D) (xs := xs) (ys := ((gs.map (routeOf cs gs)).map (sg (mem ss))).map V.int) rfl)
      (LcP H3 D3 gs (fun g => if decide (sg (mem ss) (routeOf cs gs g) < 0) = true then some (.int g.2) else none)) (.start nD3) (fun j H4 _ h => ⟨sqS (s3.trans h.1) hgt, SqL.of (h.1 _ _ eD3)⟩) ?_ ?_⟩
    · rintro j v H4 H5 hlt hN ⟨T, x, y, rfl, nT, rfl, ex, ey⟩
      have hj : j < gs.length := by omega
      have hg : gs[j]? = some gs[j] := List.getElem?_eq_getElem hj
      obtain ⟨gA, pA, hx, hG, hP⟩ := grp_at hgs hg
      have ex : xs[j]? = some x := ex
      rw [hx] at ex
      cases ex
      have ey : (((gs.map (routeOf cs gs)).map (sg (mem ss))).map V.int)[j]? = some y := ey
      rw [List.getElem?_map, List.getElem?_map, List.getElem?_map, hg] at ey
      cases ey
      have sT := sameNew (o := .tup [.ref gA, .int (sg (mem ss) (routeOf cs gs gs[j]))]) nT
      refine ⟨T, _, rfl, SqT.of upd_same, rfl, _, _, rfl, gA, _, rfl, sqS (s3.trans (hN.1.trans sT)) hG, rfl, _, _, rfl, _, _, rfl, rfl, _, _, rfl, rfl, rfl, .int (sg (mem ss) (routeOf cs gs gs[j])), rfl, _, _, rfl, rfl, _, rfl, ite2 (fun h1 => ?_) (fun h1 => ?_)⟩
      · exact ⟨.int gs[j].2, rfl, hN.yes nD3 sT hg (if_pos h1) (by omega)⟩
      · exact hN.no sT hg (if_neg h1)
    rintro H4 hN
    have e4 := hN.done (by rw [List.length_map, List.length_map, List.length_map]; omega)
    have em4 : gs.filterMap (fun g => if decide (sg (mem ss) (routeOf cs gs g) < 0) = true then some (V.int g.2) else none) = ((gs.filter (fun g => decide (sg (mem ss) (routeOf cs gs g) < 0))).map (fun g => g.2)).map V.int := by rw [fm_filter, List.map_map]; rfl
    rw [em4] at e4
    have s4 := s3.trans hN.1
    have eD4 := hN.1 _ _ eD3
    refine ⟨D3, _, rfl, SqL.of e4, _, _, rfl, rfl, ?_⟩
    dsimp only
    rw [← FS0 hss]
    refine ⟨_, rfl, _, _, rfl, rfl, _, rfl, ite2 (fun h1 => ?_) (fun h1 => ?_)⟩
    · have h1 : FS (nzP cs gs) (spOf cs gs) (mem ss) (es0 cs gs) < 0 := by simpa using h1
      have pick : ∀ (f : Int → Bool) (Hx : Hp), Same H Hx → ∀ (j : Nat) (v : V), (ss.map V.int)[j]? = some v → ∃ (pn : Nat), v = .int pn ∧ ss[j]? = some (pn : Int) ∧ ∃ h : pn < (spareL cs gs).length, (spareL cs gs)[pn] = spOf cs gs pn := by
        intro f Hx s j v hv
        rw [List.getElem?_map] at hv
        obtain ⟨p, hp, rfl⟩ := Option.map_eq_some_iff.mp hv
        obtain ⟨pn, rfl, hpn⟩ := hsN p (List.mem_of_getElem? hp)
        exact ⟨pn, rfl, hp, by rw [spareL_len]; exact hpn, spareL_at hpn⟩
      refine ⟨.ref ins, rfl, ins, rfl, ⟨_, sqS s4 hIns⟩, fun D5 nD5 => lc_it (walk_tup (K := K) (a := ins) (xs := ss.map V.int))
        (LcP H4 D5 ss (fun p => if decide (spOf cs gs p < 0) = true then some (.int p) else none)) (.start nD5) (fun j H5 _ h => sqS (s4.trans h.1) hIns) ?_ ?_⟩
      · rintro j v H5 H6 hlt hO ⟨rfl, hv⟩
        obtain ⟨pn, rfl, hp, hpl, hpe⟩ := pick (fun _ => true) _ (s4.trans hO.1) j v hv
        rw [List.length_map] at hlt
        refine ⟨rfl, .ref sp, rfl, .int (pn : Nat), rfl, sp, _, _, _, rfl, rfl, SqL.of ((s4.trans hO.1) _ _ hSp), atI_nat (atS hpl), _, _, rfl, rfl, _, rfl, ?_⟩
        rw [hpe]
        refine ite2 (fun h2 => ?_) (fun h2 => ?_)
        · exact ⟨_, rfl, hO.yes nD5 (Same.refl _) hp (if_pos h2) (by omega)⟩
        · exact hO.no (Same.refl _) hp (if_neg h2)
      rintro H5 hO
      have e5 := hO.done (by rw [List.length_map]; exact Nat.le_refl _)
      rw [fm_filter] at e5
      refine ⟨D5, _, rfl, .inl ⟨SqL.of e5, fun Ct nCt => ?_⟩⟩
      have sCt := sameNew (o := .tup ((ss.filter (fun p => decide (spOf cs gs p < 0))).map V.int)) nCt
      have s5 := s4.trans (hO.1.trans sCt)
      have hCt : SqT K _ Ct ((ss.filter (fun p => decide (spOf cs gs p < 0))).map V.int) := SqT.of (upd_same (H := H5))
      generalize upd H5 Ct (.tup ((ss.filter (fun p => decide (spOf cs gs p < 0))).map V.int)) = H6 at s5 hCt
      refine ⟨.ref Ct, rfl, .ref ins, rfl, ins, rfl, ⟨_, sqS s5 hIns⟩, fun D6 nD6 => lc_it (walk_tup (K := K) (a := ins) (xs := ss.map V.int))
        (LcP H6 D6 ss (fun p => if decide (0 < spOf cs gs p) = true then some (.int p) else none)) (.start nD6) (fun j H7 _ h => sqS (s5.trans h.1) hIns) ?_ ?_⟩
      · rintro j v H7 H8 hlt hO6 ⟨rfl, hv⟩
        obtain ⟨pn, rfl, hp, hpl, hpe⟩ := pick (fun _ => true) _ (s5.trans hO6.1) j v hv
        rw [List.length_map] at hlt
        refine ⟨rfl, .ref sp, rfl, .int (pn : Nat), rfl, sp, _, _, _, rfl, rfl, SqL.of ((s5.trans hO6.1) _ _ hSp), atI_nat (atS hpl), _, _, rfl, rfl, _, rfl, ?_⟩
        rw [hpe]
        refine ite2 (fun h2 => ?_) (fun h2 => ?_)
        · exact ⟨_, rfl, hO6.yes nD6 (Same.refl _) hp (if_pos h2) (by omega)⟩
        · exact hO6.no (Same.refl _) hp (if_neg h2)
      rintro H7 hO6
      have e7 := hO6.done (by rw [List.length_map]; exact Nat.le_refl _)
      rw [fm_filter] at e7
      refine ⟨D6, _, rfl, .inl ⟨SqL.of e7, fun Rt nRt => ?_⟩⟩
      have sRt := sameNew (o := .tup ((ss.filter (fun p => decide (0 < spOf cs gs p))).map V.int)) nRt
      exact mkO2 fun d nd => q.2 h1 _ d Ct Rt (s5.trans (hO6.1.trans sRt)) nd ⟨Ct, rfl, sqS (hO6.1.trans sRt) hCt⟩ ⟨Rt, rfl, SqT.of upd_same⟩
    · have h1 : 0 ≤ FS (nzP cs gs) (spOf cs gs) (mem ss) (es0 cs gs) := by simp at h1; omega
      refine ⟨_, rfl, .ref D, rfl, (show (2 : Nat) ≤ sizeLine by decide), fun T nT => ?_⟩
      have sT := sameNew (o := .tup [.int (FS (nzP cs gs) (spOf cs gs) (mem ss) (es0 cs gs)), .ref D]) nT
      exact q.1 h1 _ T D (s4.trans sT) upd_same (sT _ _ eD4) nD
end
end Pv

set_option maxHeartbeats 1000000
/-! zip(*rows) over tuples, a name as the target -/
namespace ZL
open PySem
abbrev ZAt (h : Heap) (z TI TO : Addr) (f0 : Value) (f1 : Bool) : Prop :=
  h.get? z = some { cls := .type "zip", dict := none, data := .fields #[f0, .bool f1, .bool false, .ref TI, .ref TO], slots := #[] }
abbrev TAt (h : Heap) (T : Addr) (xs : List Value) : Prop := h.get? T = some { cls := .type "tuple", data := .seq xs.toArray }
def itsOf (b n : Nat) : List Value := (List.range n).map fun k => .ref (b + k)
theorem its_len (b n : Nat) : (itsOf b n).length = n := by simp [itsOf]
theorem its_at {b n k : Nat} (h : k < n) : (itsOf b n)[k]? = some (.ref (b + k)) := by simp [itsOf, h]
/-- where the zip's own objects stand: the iterators from b on, then the tuple of them, the tuple it keeps, the zip -/
structure St0 (h : Heap) (b : Nat) (rows : List Addr) (f0 : Value) (f1 : Bool) (at_ : Nat → Nat) : Prop where
  zip : ZAt h (b + rows.length + 2) (b + rows.length) (b + rows.length + 1) f0 f1
  ti : TAt h (b + rows.length) (itsOf b rows.length)
  to : ∃ kept : List Value, kept.length = rows.length ∧ TAt h (b + rows.length + 1) kept
  it : ∀ (k : Nat) (row : Addr), rows[k]? = some row → h.IsListIter (b + k) row (at_ k)
/-- what is not the zip's own stays -/
def Off (b n : Nat) (h h' : Heap) : Prop := ∀ c o, (c < b ∨ b + n + 2 < c) → h.get? c = some o → h'.get? c = some o
theorem Off.refl (b n : Nat) (h : Heap) : Off b n h h := fun _ _ _ e => e
theorem Off.trans {b n : Nat} {h h1 h2 : Heap} (x : Off b n h h1) (y : Off b n h1 h2) : Off b n h h2 := fun c o r e => y c o r (x c o r e)
theorem Off.but {b n c0 : Nat} {h h' : Heap} (e : Heap.SameBut c0 h h') (hc : b ≤ c0 ∧ c0 ≤ b + n + 2) : Off b n h h' := fun c o r x => by
  rw [e.2 c (fun z => by subst z; omega)]; exact x
section
variable {prog : Program} {w : World} {A : Around} {E : Value → Shared → Prop} {s : Shared}
theorem alive {a : Addr} {Q : Option Obj → Shared → Prop} (h : Q (s.heap.get? a) s) : wpAny (model prog w) A (loadIfAlive a) Q E s := by
  intro Γ p hΓ
  unfold loadIfAlive
  rw [Sem.wp_loadIfAlive]
  exact wpAny_pure h Γ p hΓ
theorem nextOf_item {it l : Addr} {i : Nat} {items} {x : Value} {Q : Value → Shared → Prop} (hit : s.heap.IsListIter it l i) (hl : s.heap.IsList l items) (hx : items[i]? = some x)
    (hQ : ∀ h', h'.IsListIter it l (i + 1) → Heap.SameBut it s.heap h' → Q x { s with heap := h' }) : wpAny (model prog w) A (Builtin.SmallTypes.nextOf (.ref it)) Q E s := wpAny_nextOf_list_item hit hl hx hQ
/-- the draws, one iterator after another, into the tuple that the zip keeps -/
structure Half (s : Shared) (b : Nat) (rows : List Addr) (i : Nat) (col : List Value) (f0 : Value) (f1 : Bool) (k : Nat) (s' : Shared) : Prop where
  ex : ∃ h', s' = { s with heap := h' } ∧ h'.objs.size = s.heap.objs.size ∧ Off b rows.length s.heap h' ∧ ZAt h' (b + rows.length + 2) (b + rows.length) (b + rows.length + 1) f0 f1 ∧ TAt h' (b + rows.length) (itsOf b rows.length) ∧
    (∃ kept : List Value, kept.length = rows.length ∧ TAt h' (b + rows.length + 1) kept ∧ kept.take k = col.take k) ∧ ∀ (j : Nat) (row : Addr), rows[j]? = some row → h'.IsListIter (b + j) row (if j < k then i + 1 else i)
theorem ne_nat {a b : Nat} (h : ¬ (a = b)) : (show Addr from a) ≠ (show Addr from b) := h
theorem tuple_off {b n : Nat} {h h' : Heap} {l : Addr} {items : Array Value} (x : Off b n h h') (hl : l < b) (ht : h.IsList l items) : h'.IsList l items := by
  obtain ⟨o, ho, r⟩ := ht
  exact ⟨o, x l o (.inl hl) ho, r⟩
end
end ZL

namespace ZL
open PySem
section
variable {prog : Program} {w : World} {A : Around} {E : Value → Shared → Prop} {s : Shared}
theorem own_free {z TI TO : Addr} {f0 : Value} {f1 : Bool} (hz : ZAt s.heap z TI TO f0 f1) (hf : f0 = .none ∨ ∃ a : Nat, f0 = rawInt a) :
    wpAny (model prog w) A (Builtin.SmallTypes.ownedTupleIsFree (.ref z)) (fun r s' => (r = true ∧ s' = s) ∨ (r = false ∧ ∃ h', s' = { s with heap := h' } ∧ ZAt h' z TI TO f0 true ∧ Heap.SameBut z s.heap h')) E s := by
  unfold Builtin.SmallTypes.ownedTupleIsFree
  rcases hf with rfl | ⟨a, rfl⟩
  · exact wpAny_bind (wpAny_field hz rfl (x := .none) rfl (wpAny_pure (.inl ⟨rfl, rfl⟩)))
  · refine wpAny_bind (wpAny_field hz rfl (x := rawInt a) rfl ?_)
    show wpAny _ _ (loadIfAlive (Int.toNat a) >>= _) _ _ _
    refine wpAny_bind (alive ?_)
    rw [Int.toNat_natCast]
    cases e : s.heap.get? a with
    | none => exact wpAny_pure (.inl ⟨rfl, rfl⟩)
    | some o =>
      show wpAny _ _ (field (.ref z) 1 >>= _) _ _ _
      refine wpAny_bind (wpAny_field hz rfl (x := .bool f1) rfl ?_)
      cases f1 with
      | true => exact wpAny_pure (.inr ⟨rfl, s.heap, rfl, hz, ⟨rfl, fun _ _ => rfl⟩⟩)
      | false =>
        show wpAny _ _ (setField (.ref z) 1 (.bool true) >>= _) _ _ _
        exact wpAny_bind (wpAny_setField_rec hz (by simp) fun h' hz' hs' => wpAny_pure (.inr ⟨rfl, h', rfl, hz', hs'⟩))
theorem cons_drop {α : Type} {x : α} {rest L : List α} {k : Nat} (e : x :: rest = L.drop k) : L[k]? = some x ∧ rest = L.drop (k + 1) := by
  constructor
  · have := List.getElem?_drop (xs := L) (i := k) (j := 0)
    rw [← e] at this
    simpa using this.symm
  · rw [← List.drop_drop, ← e]; rfl
theorem zipIdx_at {b n k : Nat} {x : Value × Nat} (h : ((itsOf b n).zipIdx)[k]? = some x) : x = (.ref (b + k), k) ∧ k < n := by
  rw [List.getElem?_zipIdx] at h
  cases e : (itsOf b n)[k]? with
  | none => rw [e] at h; simp at h
  | some v =>
    have hk : k < n := by have := (List.getElem?_eq_some_iff.mp e).1; rw [its_len] at this; exact this
    rw [its_at hk] at e
    cases e
    rw [its_at hk] at h
    simp at h
    exact ⟨h.symm, hk⟩
set_option maxHeartbeats 4000000 in
theorem next_item {b : Nat} {rows : List Addr} {f0 : Value} {f1 : Bool} {i : Nat} {col : List Value} {Q : Value → Shared → Prop} (st : St0 s.heap b rows f0 f1 (fun _ => i)) (hf : f0 = .none ∨ ∃ a : Nat, f0 = rawInt a) (hn : 0 < rows.length) (hn2 : rows.length ≤ 1000)
    (hr : ∀ row ∈ rows, row < b) (hc : col.length = rows.length) (hx : ∀ (k : Nat) (row : Addr), rows[k]? = some row → ∃ (items : Array Value) (x : Value), s.heap.IsList row items ∧ items[i]? = some x ∧ col[k]? = some x)
    (hQ : ∀ h' f0' f1', St0 h' b rows f0' f1' (fun _ => i + 1) → (f0' = .none ∨ ∃ a : Nat, f0' = rawInt a) → TAt h' s.heap.objs.size col → h'.objs.size = s.heap.objs.size + 1 → Off b rows.length s.heap h' → Q (.ref s.heap.objs.size) { s with heap := h' }) :
    wpAny (model prog w) A (Builtin.«zip.__next__» ⟨[.ref (b + rows.length + 2)], []⟩) (fun fin s' => ∃ v, fin = .done (.ret v) ∧ Q v s') E s := by
  show wpAny _ _ (field (.ref (b + rows.length + 2)) 2 >>= _) _ _ _
  refine wpAny_bind (wpAny_field st.zip rfl (x := .bool false) rfl ?_)
  show wpAny _ _ (field (.ref (b + rows.length + 2)) 3 >>= _) _ _ _
  refine wpAny_bind (wpAny_field st.zip rfl (x := .ref (b + rows.length)) rfl ?_)
  refine wpAny_bind (wpAny_seqItems st.ti rfl ?_)
  have hem : (itsOf b rows.length).toArray.isEmpty = false := by
    have := its_len b rows.length
    cases e : itsOf b rows.length with
    | nil => rw [e] at this; simp at this; omega
    | cons _ _ => rfl
  dsimp only
  rw [if_neg (by rw [hem]; exact Bool.false_ne_true)]
  refine wpAny_bind (wpAny_mono (own_free st.zip hf) (fun r s1 h1 => ?_) (fun _ _ x => x))
  have hlt : b + rows.length + 2 < s.heap.objs.size := Heap.lt_size st.zip
  rcases h1 with ⟨rfl, rfl⟩ | ⟨rfl, h1, rfl, hz1, hs1⟩
  · -- the tuple that it keeps is free
    rw [if_pos rfl]
    refine wpAny_bind (wpAny_rule ?_)
    refine wpAny_bind (wpAny_field st.zip rfl (x := .ref (b + rows.length + 1)) rfl ?_)
    refine wpAny_bind (wpAny_setField_rec st.zip (by simp) fun h2 hz2 hs2 => ?_)
    replace hz2 : ZAt h2 (b + rows.length + 2) (b + rows.length) (b + rows.length + 1) .ellipsis f1 := hz2
    refine wpAny_bind (wpAny_mono (wpAny_forIn_list _ (fun rest bb s' => ∃ k, rest = ((itsOf b rows.length).zipIdx).drop k ∧ bb = (none, ()) ∧ Half s1 b rows i col .ellipsis f1 k s')
      (fun bb s' => bb = (none, ()) ∧ Half s1 b rows i col .ellipsis f1 rows.length s') ?turn ?fin _ _ ?start) ?after (fun _ _ x => x))
    case start =>
      obtain ⟨kept, hk1, hk2⟩ := st.to
      refine ⟨0, rfl, rfl, ⟨h2, rfl, hs2.1, Off.but hs2 (by omega), hz2, ?_, ⟨kept, hk1, ?_, by simp⟩, fun j row hj => ?_⟩⟩
      · show h2.get? _ = _
        rw [hs2.2 _ (ne_nat (by omega))]; exact st.ti
      · show h2.get? _ = _
        rw [hs2.2 _ (ne_nat (by omega))]; exact hk2
      · have hj' := (List.getElem?_eq_some_iff.mp hj).1
        obtain ⟨o, ho, r⟩ := st.it j row hj
        exact ⟨o, by rw [hs2.2 _ (ne_nat (by omega))]; exact ho, by simpa using r⟩
    case fin =>
      rintro bb s' ⟨k, e, rfl, hh⟩
      refine ⟨rfl, ?_⟩
      have hk : rows.length ≤ k := by
        have := congrArg List.length e
        rw [List.length_drop, List.length_zipIdx, its_len] at this
        simp at this
        omega
      obtain ⟨h', e1, e2, e3, e4, e5, ⟨kept, e6, e7, e8⟩, e9⟩ := hh.ex
      refine ⟨h', e1, e2, e3, e4, e5, ⟨kept, e6, e7, ?_⟩, fun j row hj => ?_⟩
      · rw [List.take_of_length_le (by omega), List.take_of_length_le (by omega)] at e8 ⊢
        exact e8
      · have := e9 j row hj
        have hj' := (List.getElem?_eq_some_iff.mp hj).1
        rw [if_pos (show j < k by omega)] at this
        rw [if_pos hj']; exact this
    case turn =>
      rintro x rest bb s' ⟨k, e, rfl, hh⟩
      obtain ⟨e1, e2⟩ := cons_drop e
      obtain ⟨rfl, hk⟩ := zipIdx_at e1
      obtain ⟨h', rfl, hsz, hoff, hz', hti', ⟨kept, hk1, hk2, hk3⟩, hits⟩ := hh.ex
      obtain ⟨row, hrow⟩ : ∃ row, rows[k]? = some row := ⟨rows[k], List.getElem?_eq_getElem hk⟩
      obtain ⟨items, v, hI, hv, hcv⟩ := hx k row hrow
      have hit := hits k row hrow
      rw [if_neg (Nat.lt_irrefl _)] at hit
      dsimp only
      refine wpAny_bind (wpAny_onRaise ?_)
      show wpAny _ _ (Builtin.SmallTypes.nextOf (.ref (b + k)) >>= _) _ _ _
      refine wpAny_bind (nextOf_item (s := { s1 with heap := h' }) hit (tuple_off hoff (hr row (List.mem_of_getElem? hrow)) hI) hv fun h3 hit3 hs3 => wpAny_pure ?_)
      dsimp only
      have hto3 : TAt h3 (b + rows.length + 1) kept := by
        show h3.get? _ = _
        rw [hs3.2 _ (ne_nat (by omega))]; exact hk2
      refine wpAny_bind (wpAny_seqItems (s := { s1 with heap := h3 }) hto3 rfl ?_)
      dsimp only
      refine wpAny_bind (wpAny_updateSeq (s := { s1 with heap := h3 }) hto3 rfl ?_ (by rw [List.size_toArray]; have := Pv.rLenQ; exact Nat.le_trans (by omega) (show 1000 ≤ sizeLine by decide)) (by simp only [Array.size_setIfInBounds, List.size_toArray]; exact Nat.le_trans (by omega) (show 1000 ≤ sizeLine + 1 by decide)))
      refine wpAny_bind (wpAny_letGo (wpAny_pure ?_))
      have hs4 : Heap.SameBut (b + rows.length + 1) h3 (h3.update (b + rows.length + 1) (Obj.mapSeq fun x => x.setIfInBounds k v)) := Heap.SameBut.update ..
      generalize hh4 : h3.update (b + rows.length + 1) (Obj.mapSeq fun x => x.setIfInBounds k v) = h4 at hs4
      have hto4 : TAt h4 (b + rows.length + 1) (kept.set k v) := by
        show h4.get? _ = _
        rw [← hh4, Heap.get?_update_self _ hto3 rfl]
        simp [Obj.mapSeq]
      refine ⟨k + 1, e2, rfl, ⟨h4, rfl, ?_, ?_, ?_, ?_, ⟨kept.set k v, ?_, hto4, ?_⟩, fun j row' hj => ?_⟩⟩
      · rw [hs4.1, hs3.1]; exact hsz
      · exact hoff.trans ((Off.but hs3 (by omega)).trans (Off.but hs4 (by omega)))
      · show h4.get? _ = _
        rw [hs4.2 _ (ne_nat (by omega)), hs3.2 _ (ne_nat (by omega))]; exact hz'
      · show h4.get? _ = _
        rw [hs4.2 _ (ne_nat (by omega)), hs3.2 _ (ne_nat (by omega))]; exact hti'
      · rw [List.length_set]; exact hk1
      · rw [List.take_add_one, List.take_add_one, hcv, List.getElem?_set_self (by omega), ← hk3, List.take_set_of_le (Nat.le_refl _)]
      · have hj' := (List.getElem?_eq_some_iff.mp hj).1
        by_cases hjk : j = k
        · subst hjk
          rw [hrow] at hj
          cases hj
          rw [if_pos (Nat.lt_succ_self _)]
          obtain ⟨o, ho, r⟩ := hit3
          exact ⟨o, by rw [hs4.2 _ (ne_nat (by omega))]; exact ho, r⟩
        · obtain ⟨o, ho, r⟩ := hits j row' hj
          refine ⟨o, by rw [hs4.2 _ (ne_nat (by omega)), hs3.2 _ (fun z => hjk (Nat.add_left_cancel z))]; exact ho, ?_⟩
          by_cases hlt' : j < k
          · rw [if_pos hlt'] at r; rw [if_pos (show j < k + 1 by omega)]; exact r
          · rw [if_neg hlt'] at r; rw [if_neg (show ¬ j < k + 1 by omega)]; exact r
    case after =>
      rintro bb s' ⟨rfl, hh⟩
      obtain ⟨h', rfl, hsz, hoff, hz', hti', ⟨kept, hk1, hk2, hk3⟩, hits⟩ := hh.ex
      rw [List.take_of_length_le (by omega), List.take_of_length_le (by omega)] at hk3
      subst hk3
      dsimp only
      refine wpAny_bind (wpAny_seqItems (s := { s1 with heap := h' }) hk2 rfl ?_)
      dsimp only
      refine wpAny_bind (wpAny_newTuple (s := { s1 with heap := h' }) ?_ (by show kept.toArray.toList.length ≤ sizeLine; rw [List.toList_toArray]; exact Nat.le_trans (show kept.length ≤ 1000 by omega) (by decide)))
      dsimp only
      rw [hsz]
      refine wpAny_bind ?_
      unfold Builtin.SmallTypes.ownedTupleHandOut
      have hz6 : ZAt (h'.push { cls := .type "tuple", data := .seq kept.toArray.toList.toArray }) (b + rows.length + 2) (b + rows.length) (b + rows.length + 1) .ellipsis f1 := Heap.get?_push_of_some _ hz'
      refine wpAny_bind (wpAny_setField_rec (s := { s1 with heap := h'.push { cls := .type "tuple", data := .seq kept.toArray.toList.toArray } }) hz6 (by simp) fun h7 hz7 hs7 => ?_)
      replace hz7 : ZAt h7 (b + rows.length + 2) (b + rows.length) (b + rows.length + 1) (rawInt s1.heap.objs.size) f1 := hz7
      refine wpAny_setField_rec (s := { s1 with heap := h7 }) hz7 (by simp) fun h8 hz8 hs8 => ?_
      replace hz8 : ZAt h8 (b + rows.length + 2) (b + rows.length) (b + rows.length + 1) (rawInt s1.heap.objs.size) false := hz8
      have up : ∀ c o, c ≠ b + rows.length + 2 → h'.get? c = some o → h8.get? c = some o := fun c o c1 e => by
        rw [hs8.2 _ c1, hs7.2 _ c1]; exact Heap.get?_push_of_some _ e
      refine wpAny_pure ⟨_, rfl, hQ h8 _ false ⟨hz8, up _ _ (ne_nat (by omega)) hti', ⟨kept, hk1, up _ _ (ne_nat (by omega)) hk2⟩, fun k row hk => ?_⟩ (.inr ⟨_, rfl⟩) ?_ ?_ ?_⟩
      · have hk' := (List.getElem?_eq_some_iff.mp hk).1
        have := hits k row hk
        rw [if_pos hk'] at this
        obtain ⟨o, ho, r⟩ := this
        exact ⟨o, up _ _ (ne_nat (by omega)) ho, r⟩
      · show h8.get? _ = _
        rw [hs8.2 _ (ne_nat (by omega)), hs7.2 _ (ne_nat (by omega)), ← hsz]
        exact Heap.get?_push_size _ rfl
      · rw [hs8.1, hs7.1, Heap.size_push, hsz]
      · intro c o r e
        exact up c o (ne_nat (by omega)) (hoff c o r e)
  · -- it is not
    rw [if_neg Bool.false_ne_true]
    have hti1 : TAt h1 (b + rows.length) (itsOf b rows.length) := by
      show h1.get? _ = _
      rw [hs1.2 _ (ne_nat (by omega))]; exact st.ti
    try dsimp only
    refine wpAny_bind (wpAny_mono (MeetsSeq2.wpAny_forIn_array _ (fun rest bb s' => ∃ k, rest = (itsOf b rows.length).drop k ∧ bb = (none, (col.take k).toArray) ∧ ∃ h', s' = { s with heap := h' } ∧ h'.objs.size = s.heap.objs.size ∧ Off b rows.length s.heap h' ∧
        ZAt h' (b + rows.length + 2) (b + rows.length) (b + rows.length + 1) f0 true ∧ TAt h' (b + rows.length) (itsOf b rows.length) ∧ (∃ kept : List Value, kept.length = rows.length ∧ TAt h' (b + rows.length + 1) kept) ∧ ∀ (j : Nat) (row : Addr), rows[j]? = some row → h'.IsListIter (b + j) row (if j < k then i + 1 else i))
      (fun bb s' => bb = (none, col.toArray) ∧ ∃ h', s' = { s with heap := h' } ∧ h'.objs.size = s.heap.objs.size ∧ Off b rows.length s.heap h' ∧ St0 h' b rows f0 true (fun _ => i + 1)) ?turn ?fin _ _ ?start) ?after (fun _ _ x => x))
    case start =>
      obtain ⟨kept, hk1, hk2⟩ := st.to
      refine ⟨0, by simp, by simp, h1, rfl, hs1.1, Off.but hs1 (by omega), hz1, hti1, ⟨kept, hk1, ?_⟩, fun j row hj => ?_⟩
      · show h1.get? _ = _
        rw [hs1.2 _ (ne_nat (by omega))]; exact hk2
      · have hj' := (List.getElem?_eq_some_iff.mp hj).1
        obtain ⟨o, ho, r⟩ := st.it j row hj
        exact ⟨o, by rw [hs1.2 _ (ne_nat (by omega))]; exact ho, by simpa using r⟩
    case fin =>
      rintro bb s' ⟨k, e, rfl, h', rfl, e2, e3, e4, e5, e6, e7⟩
      have hk : rows.length ≤ k := by
        have := congrArg List.length e
        rw [List.length_drop, its_len] at this
        simp at this
        omega
      refine ⟨by rw [List.take_of_length_le (by omega)], h', rfl, e2, e3, e4, e5, e6, fun j row hj => ?_⟩
      have := e7 j row hj
      have hj' := (List.getElem?_eq_some_iff.mp hj).1
      rw [if_pos (show j < k by omega)] at this
      exact this
    case turn =>
      rintro x rest bb s' ⟨k, e, rfl, h', rfl, hsz, hoff, hz', hti', hto', hits⟩
      obtain ⟨e1, e2⟩ := cons_drop e
      have hk : k < rows.length := by have := (List.getElem?_eq_some_iff.mp e1).1; rw [its_len] at this; exact this
      rw [its_at hk] at e1
      cases e1
      obtain ⟨row, hrow⟩ : ∃ row, rows[k]? = some row := ⟨rows[k], List.getElem?_eq_getElem hk⟩
      obtain ⟨items, v, hI, hv, hcv⟩ := hx k row hrow
      have hit := hits k row hrow
      rw [if_neg (Nat.lt_irrefl _)] at hit
      dsimp only
      refine wpAny_bind (wpAny_holding ?_)
      show wpAny _ _ (Builtin.SmallTypes.nextOf (.ref (b + k)) >>= _) _ _ _
      refine wpAny_bind (nextOf_item (s := { s with heap := h' }) hit (tuple_off hoff (hr row (List.mem_of_getElem? hrow)) hI) hv fun h3 hit3 hs3 => wpAny_pure ?_)
      dsimp only
      refine wpAny_pure ⟨k + 1, e2, ?_, h3, rfl, ?_, ?_, ?_, ?_, ?_, fun j row' hj => ?_⟩
      · rw [List.take_add_one, hcv]; simp
      · rw [hs3.1]; exact hsz
      · exact hoff.trans (Off.but hs3 (by omega))
      · show h3.get? _ = _
        rw [hs3.2 _ (ne_nat (by omega))]; exact hz'
      · show h3.get? _ = _
        rw [hs3.2 _ (ne_nat (by omega))]; exact hti'
      · obtain ⟨kept, hk1, hk2⟩ := hto'
        exact ⟨kept, hk1, by show h3.get? _ = _; rw [hs3.2 _ (ne_nat (by omega))]; exact hk2⟩
      · have hj' := (List.getElem?_eq_some_iff.mp hj).1
        by_cases hjk : j = k
        · subst hjk
          rw [hrow] at hj
          cases hj
          rw [if_pos (Nat.lt_succ_self _)]
          exact hit3
        · obtain ⟨o, ho, r⟩ := hits j row' hj
          refine ⟨o, by rw [hs3.2 _ (fun z => hjk (Nat.add_left_cancel z))]; exact ho, ?_⟩
          by_cases hlt' : j < k
          · rw [if_pos hlt'] at r; rw [if_pos (show j < k + 1 by omega)]; exact r
          · rw [if_neg hlt'] at r; rw [if_neg (show ¬ j < k + 1 by omega)]; exact r
    case after =>
      rintro bb s' ⟨rfl, h', rfl, hsz, hoff, st'⟩
      dsimp only
      refine wpAny_bind (wpAny_newTuple (s := { s with heap := h' }) ?_ (by show col.toArray.toList.length ≤ sizeLine; rw [List.toList_toArray]; exact Nat.le_trans (show col.length ≤ 1000 by omega) (by decide)))
      dsimp only
      rw [hsz]
      have up : ∀ c o, h'.get? c = some o → (h'.push { cls := .type "tuple", data := .seq col.toArray.toList.toArray }).get? c = some o := fun c o e => Heap.get?_push_of_some _ e
      refine wpAny_pure ⟨_, rfl, hQ _ _ true ⟨up _ _ st'.zip, up _ _ st'.ti, ?_, fun k row hk => ?_⟩ hf ?_ ?_ ?_⟩
      · obtain ⟨kept, hk1, hk2⟩ := st'.to
        exact ⟨kept, hk1, up _ _ hk2⟩
      · obtain ⟨o, ho, r⟩ := st'.it k row hk
        exact ⟨o, up _ _ ho, r⟩
      · rw [← hsz]; exact Heap.get?_push_size _ rfl
      · rw [Heap.size_push, hsz]
      · intro c o r e
        exact up _ _ (hoff c o r e)
end
end ZL

namespace ZL
open PySem
section
variable {prog : Program} {w : World} {A : Around} {E : Value → Shared → Prop} {s : Shared}
theorem its_cons {b n : Nat} (h : 0 < n) : ∃ rest, itsOf b n = .ref (b + 0) :: rest := by
  cases e : itsOf b n with
  | nil => have := its_len b n; rw [e] at this; simp at this; omega
  | cons x rest =>
    have := its_at (b := b) h
    rw [e] at this
    simp at this
    exact ⟨rest, by rw [this]; rfl⟩
set_option maxHeartbeats 4000000 in
theorem next_end {b : Nat} {rows : List Addr} {f0 : Value} {f1 : Bool} {i : Nat} {row : Addr} {items : Array Value} {Q : Fin → Shared → Prop} (hh : A.handled = none) (st : St0 s.heap b rows f0 f1 (fun _ => i)) (hf : f0 = .none ∨ ∃ a : Nat, f0 = rawInt a)
    (hr0 : rows[0]? = some row) (hrb : row < b) (hI : s.heap.IsList row items) (hx : items[i]? = none)
    (hE : ∀ h' e, Off b rows.length s.heap h' → (∃ o, h'.get? e = some o ∧ o.cls = .type "StopIteration") → E (.ref e) { s with heap := h' }) :
    wpAny (model prog w) A (Builtin.«zip.__next__» ⟨[.ref (b + rows.length + 2)], []⟩) Q E s := by
  have hn : 0 < rows.length := (List.getElem?_eq_some_iff.mp hr0).1
  obtain ⟨rest, hits⟩ := its_cons (b := b) hn
  show wpAny _ _ (field (.ref (b + rows.length + 2)) 2 >>= _) _ _ _
  refine wpAny_bind (wpAny_field st.zip rfl (x := .bool false) rfl ?_)
  show wpAny _ _ (field (.ref (b + rows.length + 2)) 3 >>= _) _ _ _
  refine wpAny_bind (wpAny_field st.zip rfl (x := .ref (b + rows.length)) rfl ?_)
  refine wpAny_bind (wpAny_seqItems st.ti rfl ?_)
  have hem : (itsOf b rows.length).toArray.isEmpty = false := by rw [hits]; rfl
  dsimp only
  rw [if_neg (by rw [hem]; exact Bool.false_ne_true)]
  refine wpAny_bind (wpAny_mono (own_free st.zip hf) (fun r s1 h1 => ?_) (fun _ _ x => x))
  have hlt : b + rows.length + 2 < s.heap.objs.size := Heap.lt_size st.zip
  have hit := st.it 0 row hr0
  rcases h1 with ⟨rfl, rfl⟩ | ⟨rfl, h1, rfl, hz1, hs1⟩
  · rw [if_pos rfl]
    refine wpAny_bind (wpAny_rule ?_)
    refine wpAny_bind (wpAny_field st.zip rfl (x := .ref (b + rows.length + 1)) rfl ?_)
    refine wpAny_bind (wpAny_setField_rec st.zip (by simp) fun h2 hz2 hs2 => ?_)
    replace hz2 : ZAt h2 (b + rows.length + 2) (b + rows.length) (b + rows.length + 1) .ellipsis f1 := hz2
    have o2 : Off b rows.length s1.heap h2 := Off.but hs2 (by omega)
    have hit2 : h2.IsListIter (b + 0) row i := by
      obtain ⟨o, ho, r⟩ := hit
      exact ⟨o, by rw [hs2.2 _ (ne_nat (by omega))]; exact ho, r⟩
    refine wpAny_bind ?_
    have hz0 : (itsOf b rows.length).toArray.toList.zipIdx = (.ref (b + 0), 0) :: rest.zipIdx 1 := by rw [hits]; rfl
    rw [hz0, List.forIn_cons]
    refine wpAny_bind (wpAny_bind (wpAny_onRaise ?_))
    show wpAny _ _ (Builtin.SmallTypes.nextOf (.ref (b + 0)) >>= _) _ _ _
    refine wpAny_bind (wpAny_nextOf_list_end (s := { s1 with heap := h2 }) hh hit2 (tuple_off o2 hrb hI) hx fun h3 e hs3 he => ?_)
    obtain ⟨oe, hoe, hce⟩ := he
    have hz3 : ZAt h3 (b + rows.length + 2) (b + rows.length) (b + rows.length + 1) .ellipsis f1 := hs3 _ _ (ne_nat (by omega)) hz2
    have hez : e ≠ b + rows.length + 2 := fun x => by subst x; rw [hz3] at hoe; cases hoe; simp at hce
    refine wpAny_setField_rec (s := { s1 with heap := h3 }) hz3 (by simp) fun h4 _ hs4 => hE h4 e (fun c o r x => ?_) ⟨oe, by rw [hs4.2 _ hez]; exact hoe, hce⟩
    rw [hs4.2 _ (ne_nat (by omega))]
    exact hs3 _ _ (ne_nat (by omega)) (o2 c o r x)
  · rw [if_neg Bool.false_ne_true]
    have o1 : Off b rows.length s.heap h1 := Off.but hs1 (by omega)
    have hit1 : h1.IsListIter (b + 0) row i := by
      obtain ⟨o, ho, r⟩ := hit
      exact ⟨o, by rw [hs1.2 _ (ne_nat (by omega))]; exact ho, r⟩
    try dsimp only
    refine wpAny_bind ?_
    rw [← Array.forIn_toList, List.toList_toArray, hits, List.forIn_cons]
    refine wpAny_bind (wpAny_bind (wpAny_holding ?_))
    show wpAny _ _ (Builtin.SmallTypes.nextOf (.ref (b + 0)) >>= _) _ _ _
    refine wpAny_bind (wpAny_nextOf_list_end (s := { s with heap := h1 }) hh hit1 (tuple_off o1 hrb hI) hx fun h3 e hs3 he => hE h3 e (fun c o r x => ?_) he)
    exact hs3 _ _ (ne_nat (by omega)) (o1 c o r x)
theorem pyNext_item {b : Nat} {rows : List Addr} {f0 : Value} {f1 : Bool} {i : Nat} {col : List Value} {Q : Option Value → Shared → Prop} (st : St0 s.heap b rows f0 f1 (fun _ => i)) (hf : f0 = .none ∨ ∃ a : Nat, f0 = rawInt a) (hn : 0 < rows.length) (hn2 : rows.length ≤ 1000)
    (hr : ∀ row ∈ rows, row < b) (hc : col.length = rows.length) (hx : ∀ (k : Nat) (row : Addr), rows[k]? = some row → ∃ (items : Array Value) (x : Value), s.heap.IsList row items ∧ items[i]? = some x ∧ col[k]? = some x)
    (hQ : ∀ h' f0' f1', St0 h' b rows f0' f1' (fun _ => i + 1) → (f0' = .none ∨ ∃ a : Nat, f0' = rawInt a) → TAt h' s.heap.objs.size col → h'.objs.size = s.heap.objs.size + 1 → Off b rows.length s.heap h' → Q (some (.ref s.heap.objs.size)) { s with heap := h' }) :
    wpAny (model prog w) A (pyNext (.ref (b + rows.length + 2))) Q E s := by
  have hT : s.TypeIs (.ref (b + rows.length + 2)) "zip" := ⟨_, st.zip, rfl⟩
  unfold pyNext
  exact wpAny_bind (wpAny_attempt (wpAny_callSpecial?_slot (name := Str.ofString "__next__") hT F.slot_zip_next
    (wpAny_call_entry F.slot_zip_next hT F.entry_zip_next
      (next_item st hf hn hn2 hr hc hx fun h' a b' a1 a2 a3 a4 a5 => wpAny_pure (hQ h' a b' a1 a2 a3 a4 a5)) (F.args_zip_next_1 _))))
theorem pyNext_end {b : Nat} {rows : List Addr} {f0 : Value} {f1 : Bool} {i : Nat} {row : Addr} {items : Array Value} {Q : Option Value → Shared → Prop} (hh : A.handled = none) (st : St0 s.heap b rows f0 f1 (fun _ => i)) (hf : f0 = .none ∨ ∃ a : Nat, f0 = rawInt a)
    (hr0 : rows[0]? = some row) (hrb : row < b) (hI : s.heap.IsList row items) (hx : items[i]? = none) (hQ : ∀ h', Off b rows.length s.heap h' → Q none { s with heap := h' }) :
    wpAny (model prog w) A (pyNext (.ref (b + rows.length + 2))) Q E s := by
  have hT : s.TypeIs (.ref (b + rows.length + 2)) "zip" := ⟨_, st.zip, rfl⟩
  unfold pyNext
  refine wpAny_bind (wpAny_attempt (wpAny_callSpecial?_slot (name := Str.ofString "__next__") hT F.slot_zip_next
    (wpAny_call_entry F.slot_zip_next hT F.entry_zip_next (next_end hh st hf hr0 hrb hI hx fun h' e hk he => ?_) (F.args_zip_next_1 _))))
  obtain ⟨o, ho, hc⟩ := he
  refine wpAny_bind (wpAny_isInstance (T := "StopIteration") (b := true) ⟨o, ho, hc⟩ isSubtype_stop ?_)
  exact wpAny_pure (hQ _ hk)
theorem pyIter_zip {z TI TO : Addr} {f0 : Value} {f1 : Bool} {Q : Value → Shared → Prop} (hz : ZAt s.heap z TI TO f0 f1) (h : Q (.ref z) s) : wpAny (model prog w) A (pyIter (.ref z)) Q E s := by
  have hT : s.TypeIs (.ref z) "zip" := ⟨_, hz, rfl⟩
  refine wpAny_pyIter_slot hT F.slot_zip_iter (wpAny_call_entry F.slot_zip_iter hT F.entry_zip_iter ?_ (F.args_zip_iter_1 _))
  show wpAny _ _ (ret (.ref z)) _ _ s
  exact wpAny_pure ⟨_, rfl, "zip", _, hT, F.slot_zip_next.lookup, h⟩
/-! making it -/
theorem typeCall (as : List Value) (h : as.length ≤ 72) : checkTypeCall "zip" ⟨as, []⟩ = pure () := by
  match as, h with
  | [], _ => kernel_rfl
  | a0 :: [], _ => kernel_rfl
  | a0 :: a1 :: [], _ => kernel_rfl
  | a0 :: a1 :: a2 :: [], _ => kernel_rfl
  | a0 :: a1 :: a2 :: a3 :: [], _ => kernel_rfl
  | a0 :: a1 :: a2 :: a3 :: a4 :: [], _ => kernel_rfl
  | a0 :: a1 :: a2 :: a3 :: a4 :: a5 :: [], _ => kernel_rfl
  | a0 :: a1 :: a2 :: a3 :: a4 :: a5 :: a6 :: [], _ => kernel_rfl
  | a0 :: a1 :: a2 :: a3 :: a4 :: a5 :: a6 :: a7 :: [], _ => kernel_rfl
  | a0 :: a1 :: a2 :: a3 :: a4 :: a5 :: a6 :: a7 :: a8 :: [], _ => kernel_rfl
  | a0 :: a1 :: a2 :: a3 :: a4 :: a5 :: a6 :: a7 :: a8 :: a9 :: [], _ => kernel_rfl
  | a0 :: a1 :: a2 :: a3 :: a4 :: a5 :: a6 :: a7 :: a8 :: a9 :: a10 :: [], _ => kernel_rfl
  | a0 :: a1 :: a2 :: a3 :: a4 :: a5 :: a6 :: a7 :: a8 :: a9 :: a10 :: a11 :: [], _ => kernel_rfl
  | a0 :: a1 :: a2 :: a3 :: a4 :: a5 :: a6 :: a7 :: a8 :: a9 :: a10 :: a11 :: a12 :: [], _ => kernel_rfl
  | a0 :: a1 :: a2 :: a3 :: a4 :: a5 :: a6 :: a7 :: a8 :: a9 :: a10 :: a11 :: a12 :: a13 :: [], _ => kernel_rfl
  | a0 :: a1 :: a2 :: a3 :: a4 :: a5 :: a6 :: a7 :: a8 :: a9 :: a10 :: a11 :: a12 :: a13 :: a14 :: [], _ => kernel_rfl
  | a0 :: a1 :: a2 :: a3 :: a4 :: a5 :: a6 :: a7 :: a8 :: a9 :: a10 :: a11 :: a12 :: a13 :: a14 :: a15 :: [], _ => kernel_rfl
  | a0 :: a1 :: a2 :: a3 :: a4 :: a5 :: a6 :: a7 :: a8 :: a9 :: a10 :: a11 :: a12 :: a13 :: a14 :: a15 :: a16 :: [], _ => kernel_rfl
  | a0 :: a1 :: a2 :: a3 :: a4 :: a5 :: a6 :: a7 :: a8 :: a9 :: a10 :: a11 :: a12 :: a13 :: a14 :: a15 :: a16 :: a17 :: [], _ => kernel_rfl
  | a0 :: a1 :: a2 :: a3 :: a4 :: a5 :: a6 :: a7 :: a8 :: a9 :: a10 :: a11 :: a12 :: a13 :: a14 :: a15 :: a16 :: a17 :: a18 :: [], _ => kernel_rfl
  | a0 :: a1 :: a2 :: a3 :: a4 :: a5 :: a6 :: a7 :: a8 :: a9 :: a10 :: a11 :: a12 :: a13 :: a14 :: a15 :: a16 :: a17 :: a18 :: a19 :: [], _ => kernel_rfl
  | a0 :: a1 :: a2 :: a3 :: a4 :: a5 :: a6 :: a7 :: a8 :: a9 :: a10 :: a11 :: a12 :: a13 :: a14 :: a15 :: a16 :: a17 :: a18 :: a19 :: a20 :: [], _ => kernel_rfl
  | a0 :: a1 :: a2 :: a3 :: a4 :: a5 :: a6 :: a7 :: a8 :: a9 :: a10 :: a11 :: a12 :: a13 :: a14 :: a15 :: a16 :: a17 :: a18 :: a19 :: a20 :: a21 :: [], _ => kernel_rfl
  | a0 :: a1 :: a2 :: a3 :: a4 :: a5 :: a6 :: a7 :: a8 :: a9 :: a10 :: a11 :: a12 :: a13 :: a14 :: a15 :: a16 :: a17 :: a18 :: a19 :: a20 :: a21 :: a22 :: [], _ => kernel_rfl
  | a0 :: a1 :: a2 :: a3 :: a4 :: a5 :: a6 :: a7 :: a8 :: a9 :: a10 :: a11 :: a12 :: a13 :: a14 :: a15 :: a16 :: a17 :: a18 :: a19 :: a20 :: a21 :: a22 :: a23 :: [], _ => kernel_rfl
  | a0 :: a1 :: a2 :: a3 :: a4 :: a5 :: a6 :: a7 :: a8 :: a9 :: a10 :: a11 :: a12 :: a13 :: a14 :: a15 :: a16 :: a17 :: a18 :: a19 :: a20 :: a21 :: a22 :: a23 :: a24 :: [], _ => kernel_rfl
  | a0 :: a1 :: a2 :: a3 :: a4 :: a5 :: a6 :: a7 :: a8 :: a9 :: a10 :: a11 :: a12 :: a13 :: a14 :: a15 :: a16 :: a17 :: a18 :: a19 :: a20 :: a21 :: a22 :: a23 :: a24 :: a25 :: [], _ => kernel_rfl
  | a0 :: a1 :: a2 :: a3 :: a4 :: a5 :: a6 :: a7 :: a8 :: a9 :: a10 :: a11 :: a12 :: a13 :: a14 :: a15 :: a16 :: a17 :: a18 :: a19 :: a20 :: a21 :: a22 :: a23 :: a24 :: a25 :: a26 :: [], _ => kernel_rfl
  | a0 :: a1 :: a2 :: a3 :: a4 :: a5 :: a6 :: a7 :: a8 :: a9 :: a10 :: a11 :: a12 :: a13 :: a14 :: a15 :: a16 :: a17 :: a18 :: a19 :: a20 :: a21 :: a22 :: a23 :: a24 :: a25 :: a26 :: a27 :: [], _ => kernel_rfl
  | a0 :: a1 :: a2 :: a3 :: a4 :: a5 :: a6 :: a7 :: a8 :: a9 :: a10 :: a11 :: a12 :: a13 :: a14 :: a15 :: a16 :: a17 :: a18 :: a19 :: a20 :: a21 :: a22 :: a23 :: a24 :: a25 :: a26 :: a27 :: a28 :: [], _ => kernel_rfl
  | a0 :: a1 :: a2 :: a3 :: a4 :: a5 :: a6 :: a7 :: a8 :: a9 :: a10 :: a11 :: a12 :: a13 :: a14 :: a15 :: a16 :: a17 :: a18 :: a19 :: a20 :: a21 :: a22 :: a23 :: a24 :: a25 :: a26 :: a27 :: a28 :: a29 :: [], _ => kernel_rfl
  | a0 :: a1 :: a2 :: a3 :: a4 :: a5 :: a6 :: a7 :: a8 :: a9 :: a10 :: a11 :: a12 :: a13 :: a14 :: a15 :: a16 :: a17 :: a18 :: a19 :: a20 :: a21 :: a22 :: a23 :: a24 :: a25 :: a26 :: a27 :: a28 :: a29 :: a30 :: [], _ => kernel_rfl
  | a0 :: a1 :: a2 :: a3 :: a4 :: a5 :: a6 :: a7 :: a8 :: a9 :: a10 :: a11 :: a12 :: a13 :: a14 :: a15 :: a16 :: a17 :: a18 :: a19 :: a20 :: a21 :: a22 :: a23 :: a24 :: a25 :: a26 :: a27 :: a28 :: a29 :: a30 :: a31 :: [], _ => kernel_rfl
  | a0 :: a1 :: a2 :: a3 :: a4 :: a5 :: a6 :: a7 :: a8 :: a9 :: a10 :: a11 :: a12 :: a13 :: a14 :: a15 :: a16 :: a17 :: a18 :: a19 :: a20 :: a21 :: a22 :: a23 :: a24 :: a25 :: a26 :: a27 :: a28 :: a29 :: a30 :: a31 :: a32 :: [], _ => kernel_rfl
  | a0 :: a1 :: a2 :: a3 :: a4 :: a5 :: a6 :: a7 :: a8 :: a9 :: a10 :: a11 :: a12 :: a13 :: a14 :: a15 :: a16 :: a17 :: a18 :: a19 :: a20 :: a21 :: a22 :: a23 :: a24 :: a25 :: a26 :: a27 :: a28 :: a29 :: a30 :: a31 :: a32 :: a33 :: [], _ => kernel_rfl
  | a0 :: a1 :: a2 :: a3 :: a4 :: a5 :: a6 :: a7 :: a8 :: a9 :: a10 :: a11 :: a12 :: a13 :: a14 :: a15 :: a16 :: a17 :: a18 :: a19 :: a20 :: a21 :: a22 :: a23 :: a24 :: a25 :: a26 :: a27 :: a28 :: a29 :: a30 :: a31 :: a32 :: a33 :: a34 :: [], _ => kernel_rfl
  | a0 :: a1 :: a2 :: a3 :: a4 :: a5 :: a6 :: a7 :: a8 :: a9 :: a10 :: a11 :: a12 :: a13 :: a14 :: a15 :: a16 :: a17 :: a18 :: a19 :: a20 :: a21 :: a22 :: a23 :: a24 :: a25 :: a26 :: a27 :: a28 :: a29 :: a30 :: a31 :: a32 :: a33 :: a34 :: a35 :: [], _ => kernel_rfl
  | a0 :: a1 :: a2 :: a3 :: a4 :: a5 :: a6 :: a7 :: a8 :: a9 :: a10 :: a11 :: a12 :: a13 :: a14 :: a15 :: a16 :: a17 :: a18 :: a19 :: a20 :: a21 :: a22 :: a23 :: a24 :: a25 :: a26 :: a27 :: a28 :: a29 :: a30 :: a31 :: a32 :: a33 :: a34 :: a35 :: a36 :: [], _ => kernel_rfl
  | a0 :: a1 :: a2 :: a3 :: a4 :: a5 :: a6 :: a7 :: a8 :: a9 :: a10 :: a11 :: a12 :: a13 :: a14 :: a15 :: a16 :: a17 :: a18 :: a19 :: a20 :: a21 :: a22 :: a23 :: a24 :: a25 :: a26 :: a27 :: a28 :: a29 :: a30 :: a31 :: a32 :: a33 :: a34 :: a35 :: a36 :: a37 :: [], _ => kernel_rfl
  | a0 :: a1 :: a2 :: a3 :: a4 :: a5 :: a6 :: a7 :: a8 :: a9 :: a10 :: a11 :: a12 :: a13 :: a14 :: a15 :: a16 :: a17 :: a18 :: a19 :: a20 :: a21 :: a22 :: a23 :: a24 :: a25 :: a26 :: a27 :: a28 :: a29 :: a30 :: a31 :: a32 :: a33 :: a34 :: a35 :: a36 :: a37 :: a38 :: [], _ => kernel_rfl
  | a0 :: a1 :: a2 :: a3 :: a4 :: a5 :: a6 :: a7 :: a8 :: a9 :: a10 :: a11 :: a12 :: a13 :: a14 :: a15 :: a16 :: a17 :: a18 :: a19 :: a20 :: a21 :: a22 :: a23 :: a24 :: a25 :: a26 :: a27 :: a28 :: a29 :: a30 :: a31 :: a32 :: a33 :: a34 :: a35 :: a36 :: a37 :: a38 :: a39 :: [], _ => kernel_rfl
  | a0 :: a1 :: a2 :: a3 :: a4 :: a5 :: a6 :: a7 :: a8 :: a9 :: a10 :: a11 :: a12 :: a13 :: a14 :: a15 :: a16 :: a17 :: a18 :: a19 :: a20 :: a21 :: a22 :: a23 :: a24 :: a25 :: a26 :: a27 :: a28 :: a29 :: a30 :: a31 :: a32 :: a33 :: a34 :: a35 :: a36 :: a37 :: a38 :: a39 :: a40 :: [], _ => kernel_rfl
  | a0 :: a1 :: a2 :: a3 :: a4 :: a5 :: a6 :: a7 :: a8 :: a9 :: a10 :: a11 :: a12 :: a13 :: a14 :: a15 :: a16 :: a17 :: a18 :: a19 :: a20 :: a21 :: a22 :: a23 :: a24 :: a25 :: a26 :: a27 :: a28 :: a29 :: a30 :: a31 :: a32 :: a33 :: a34 :: a35 :: a36 :: a37 :: a38 :: a39 :: a40 :: a41 :: [], _ => kernel_rfl
  | a0 :: a1 :: a2 :: a3 :: a4 :: a5 :: a6 :: a7 :: a8 :: a9 :: a10 :: a11 :: a12 :: a13 :: a14 :: a15 :: a16 :: a17 :: a18 :: a19 :: a20 :: a21 :: a22 :: a23 :: a24 :: a25 :: a26 :: a27 :: a28 :: a29 :: a30 :: a31 :: a32 :: a33 :: a34 :: a35 :: a36 :: a37 :: a38 :: a39 :: a40 :: a41 :: a42 :: [], _ => kernel_rfl
  | a0 :: a1 :: a2 :: a3 :: a4 :: a5 :: a6 :: a7 :: a8 :: a9 :: a10 :: a11 :: a12 :: a13 :: a14 :: a15 :: a16 :: a17 :: a18 :: a19 :: a20 :: a21 :: a22 :: a23 :: a24 :: a25 :: a26 :: a27 :: a28 :: a29 :: a30 :: a31 :: a32 :: a33 :: a34 :: a35 :: a36 :: a37 :: a38 :: a39 :: a40 :: a41 :: a42 :: a43 :: [], _ => kernel_rfl
  | a0 :: a1 :: a2 :: a3 :: a4 :: a5 :: a6 :: a7 :: a8 :: a9 :: a10 :: a11 :: a12 :: a13 :: a14 :: a15 :: a16 :: a17 :: a18 :: a19 :: a20 :: a21 :: a22 :: a23 :: a24 :: a25 :: a26 :: a27 :: a28 :: a29 :: a30 :: a31 :: a32 :: a33 :: a34 :: a35 :: a36 :: a37 :: a38 :: a39 :: a40 :: a41 :: a42 :: a43 :: a44 :: [], _ => kernel_rfl
  | a0 :: a1 :: a2 :: a3 :: a4 :: a5 :: a6 :: a7 :: a8 :: a9 :: a10 :: a11 :: a12 :: a13 :: a14 :: a15 :: a16 :: a17 :: a18 :: a19 :: a20 :: a21 :: a22 :: a23 :: a24 :: a25 :: a26 :: a27 :: a28 :: a29 :: a30 :: a31 :: a32 :: a33 :: a34 :: a35 :: a36 :: a37 :: a38 :: a39 :: a40 :: a41 :: a42 :: a43 :: a44 :: a45 :: [], _ => kernel_rfl
  | a0 :: a1 :: a2 :: a3 :: a4 :: a5 :: a6 :: a7 :: a8 :: a9 :: a10 :: a11 :: a12 :: a13 :: a14 :: a15 :: a16 :: a17 :: a18 :: a19 :: a20 :: a21 :: a22 :: a23 :: a24 :: a25 :: a26 :: a27 :: a28 :: a29 :: a30 :: a31 :: a32 :: a33 :: a34 :: a35 :: a36 :: a37 :: a38 :: a39 :: a40 :: a41 :: a42 :: a43 :: a44 :: a45 :: a46 :: [], _ => kernel_rfl
  | a0 :: a1 :: a2 :: a3 :: a4 :: a5 :: a6 :: a7 :: a8 :: a9 :: a10 :: a11 :: a12 :: a13 :: a14 :: a15 :: a16 :: a17 :: a18 :: a19 :: a20 :: a21 :: a22 :: a23 :: a24 :: a25 :: a26 :: a27 :: a28 :: a29 :: a30 :: a31 :: a32 :: a33 :: a34 :: a35 :: a36 :: a37 :: a38 :: a39 :: a40 :: a41 :: a42 :: a43 :: a44 :: a45 :: a46 :: a47 :: [], _ => kernel_rfl
  | a0 :: a1 :: a2 :: a3 :: a4 :: a5 :: a6 :: a7 :: a8 :: a9 :: a10 :: a11 :: a12 :: a13 :: a14 :: a15 :: a16 :: a17 :: a18 :: a19 :: a20 :: a21 :: a22 :: a23 :: a24 :: a25 :: a26 :: a27 :: a28 :: a29 :: a30 :: a31 :: a32 :: a33 :: a34 :: a35 :: a36 :: a37 :: a38 :: a39 :: a40 :: a41 :: a42 :: a43 :: a44 :: a45 :: a46 :: a47 :: a48 :: [], _ => kernel_rfl
  | a0 :: a1 :: a2 :: a3 :: a4 :: a5 :: a6 :: a7 :: a8 :: a9 :: a10 :: a11 :: a12 :: a13 :: a14 :: a15 :: a16 :: a17 :: a18 :: a19 :: a20 :: a21 :: a22 :: a23 :: a24 :: a25 :: a26 :: a27 :: a28 :: a29 :: a30 :: a31 :: a32 :: a33 :: a34 :: a35 :: a36 :: a37 :: a38 :: a39 :: a40 :: a41 :: a42 :: a43 :: a44 :: a45 :: a46 :: a47 :: a48 :: a49 :: [], _ => kernel_rfl
  | a0 :: a1 :: a2 :: a3 :: a4 :: a5 :: a6 :: a7 :: a8 :: a9 :: a10 :: a11 :: a12 :: a13 :: a14 :: a15 :: a16 :: a17 :: a18 :: a19 :: a20 :: a21 :: a22 :: a23 :: a24 :: a25 :: a26 :: a27 :: a28 :: a29 :: a30 :: a31 :: a32 :: a33 :: a34 :: a35 :: a36 :: a37 :: a38 :: a39 :: a40 :: a41 :: a42 :: a43 :: a44 :: a45 :: a46 :: a47 :: a48 :: a49 :: a50 :: [], _ => kernel_rfl
  | a0 :: a1 :: a2 :: a3 :: a4 :: a5 :: a6 :: a7 :: a8 :: a9 :: a10 :: a11 :: a12 :: a13 :: a14 :: a15 :: a16 :: a17 :: a18 :: a19 :: a20 :: a21 :: a22 :: a23 :: a24 :: a25 :: a26 :: a27 :: a28 :: a29 :: a30 :: a31 :: a32 :: a33 :: a34 :: a35 :: a36 :: a37 :: a38 :: a39 :: a40 :: a41 :: a42 :: a43 :: a44 :: a45 :: a46 :: a47 :: a48 :: a49 :: a50 :: a51 :: [], _ => kernel_rfl
  | a0 :: a1 :: a2 :: a3 :: a4 :: a5 :: a6 :: a7 :: a8 :: a9 :: a10 :: a11 :: a12 :: a13 :: a14 :: a15 :: a16 :: a17 :: a18 :: a19 :: a20 :: a21 :: a22 :: a23 :: a24 :: a25 :: a26 :: a27 :: a28 :: a29 :: a30 :: a31 :: a32 :: a33 :: a34 :: a35 :: a36 :: a37 :: a38 :: a39 :: a40 :: a41 :: a42 :: a43 :: a44 :: a45 :: a46 :: a47 :: a48 :: a49 :: a50 :: a51 :: a52 :: [], _ => kernel_rfl
  | a0 :: a1 :: a2 :: a3 :: a4 :: a5 :: a6 :: a7 :: a8 :: a9 :: a10 :: a11 :: a12 :: a13 :: a14 :: a15 :: a16 :: a17 :: a18 :: a19 :: a20 :: a21 :: a22 :: a23 :: a24 :: a25 :: a26 :: a27 :: a28 :: a29 :: a30 :: a31 :: a32 :: a33 :: a34 :: a35 :: a36 :: a37 :: a38 :: a39 :: a40 :: a41 :: a42 :: a43 :: a44 :: a45 :: a46 :: a47 :: a48 :: a49 :: a50 :: a51 :: a52 :: a53 :: [], _ => kernel_rfl
  | a0 :: a1 :: a2 :: a3 :: a4 :: a5 :: a6 :: a7 :: a8 :: a9 :: a10 :: a11 :: a12 :: a13 :: a14 :: a15 :: a16 :: a17 :: a18 :: a19 :: a20 :: a21 :: a22 :: a23 :: a24 :: a25 :: a26 :: a27 :: a28 :: a29 :: a30 :: a31 :: a32 :: a33 :: a34 :: a35 :: a36 :: a37 :: a38 :: a39 :: a40 :: a41 :: a42 :: a43 :: a44 :: a45 :: a46 :: a47 :: a48 :: a49 :: a50 :: a51 :: a52 :: a53 :: a54 :: [], _ => kernel_rfl
  | a0 :: a1 :: a2 :: a3 :: a4 :: a5 :: a6 :: a7 :: a8 :: a9 :: a10 :: a11 :: a12 :: a13 :: a14 :: a15 :: a16 :: a17 :: a18 :: a19 :: a20 :: a21 :: a22 :: a23 :: a24 :: a25 :: a26 :: a27 :: a28 :: a29 :: a30 :: a31 :: a32 :: a33 :: a34 :: a35 :: a36 :: a37 :: a38 :: a39 :: a40 :: a41 :: a42 :: a43 :: a44 :: a45 :: a46 :: a47 :: a48 :: a49 :: a50 :: a51 :: a52 :: a53 :: a54 :: a55 :: [], _ => kernel_rfl
  | a0 :: a1 :: a2 :: a3 :: a4 :: a5 :: a6 :: a7 :: a8 :: a9 :: a10 :: a11 :: a12 :: a13 :: a14 :: a15 :: a16 :: a17 :: a18 :: a19 :: a20 :: a21 :: a22 :: a23 :: a24 :: a25 :: a26 :: a27 :: a28 :: a29 :: a30 :: a31 :: a32 :: a33 :: a34 :: a35 :: a36 :: a37 :: a38 :: a39 :: a40 :: a41 :: a42 :: a43 :: a44 :: a45 :: a46 :: a47 :: a48 :: a49 :: a50 :: a51 :: a52 :: a53 :: a54 :: a55 :: a56 :: [], _ => kernel_rfl
  | a0 :: a1 :: a2 :: a3 :: a4 :: a5 :: a6 :: a7 :: a8 :: a9 :: a10 :: a11 :: a12 :: a13 :: a14 :: a15 :: a16 :: a17 :: a18 :: a19 :: a20 :: a21 :: a22 :: a23 :: a24 :: a25 :: a26 :: a27 :: a28 :: a29 :: a30 :: a31 :: a32 :: a33 :: a34 :: a35 :: a36 :: a37 :: a38 :: a39 :: a40 :: a41 :: a42 :: a43 :: a44 :: a45 :: a46 :: a47 :: a48 :: a49 :: a50 :: a51 :: a52 :: a53 :: a54 :: a55 :: a56 :: a57 :: [], _ => kernel_rfl
  | a0 :: a1 :: a2 :: a3 :: a4 :: a5 :: a6 :: a7 :: a8 :: a9 :: a10 :: a11 :: a12 :: a13 :: a14 :: a15 :: a16 :: a17 :: a18 :: a19 :: a20 :: a21 :: a22 :: a23 :: a24 :: a25 :: a26 :: a27 :: a28 :: a29 :: a30 :: a31 :: a32 :: a33 :: a34 :: a35 :: a36 :: a37 :: a38 :: a39 :: a40 :: a41 :: a42 :: a43 :: a44 :: a45 :: a46 :: a47 :: a48 :: a49 :: a50 :: a51 :: a52 :: a53 :: a54 :: a55 :: a56 :: a57 :: a58 :: [], _ => kernel_rfl
  | a0 :: a1 :: a2 :: a3 :: a4 :: a5 :: a6 :: a7 :: a8 :: a9 :: a10 :: a11 :: a12 :: a13 :: a14 :: a15 :: a16 :: a17 :: a18 :: a19 :: a20 :: a21 :: a22 :: a23 :: a24 :: a25 :: a26 :: a27 :: a28 :: a29 :: a30 :: a31 :: a32 :: a33 :: a34 :: a35 :: a36 :: a37 :: a38 :: a39 :: a40 :: a41 :: a42 :: a43 :: a44 :: a45 :: a46 :: a47 :: a48 :: a49 :: a50 :: a51 :: a52 :: a53 :: a54 :: a55 :: a56 :: a57 :: a58 :: a59 :: [], _ => kernel_rfl
  | a0 :: a1 :: a2 :: a3 :: a4 :: a5 :: a6 :: a7 :: a8 :: a9 :: a10 :: a11 :: a12 :: a13 :: a14 :: a15 :: a16 :: a17 :: a18 :: a19 :: a20 :: a21 :: a22 :: a23 :: a24 :: a25 :: a26 :: a27 :: a28 :: a29 :: a30 :: a31 :: a32 :: a33 :: a34 :: a35 :: a36 :: a37 :: a38 :: a39 :: a40 :: a41 :: a42 :: a43 :: a44 :: a45 :: a46 :: a47 :: a48 :: a49 :: a50 :: a51 :: a52 :: a53 :: a54 :: a55 :: a56 :: a57 :: a58 :: a59 :: a60 :: [], _ => kernel_rfl
  | a0 :: a1 :: a2 :: a3 :: a4 :: a5 :: a6 :: a7 :: a8 :: a9 :: a10 :: a11 :: a12 :: a13 :: a14 :: a15 :: a16 :: a17 :: a18 :: a19 :: a20 :: a21 :: a22 :: a23 :: a24 :: a25 :: a26 :: a27 :: a28 :: a29 :: a30 :: a31 :: a32 :: a33 :: a34 :: a35 :: a36 :: a37 :: a38 :: a39 :: a40 :: a41 :: a42 :: a43 :: a44 :: a45 :: a46 :: a47 :: a48 :: a49 :: a50 :: a51 :: a52 :: a53 :: a54 :: a55 :: a56 :: a57 :: a58 :: a59 :: a60 :: a61 :: [], _ => kernel_rfl
  | a0 :: a1 :: a2 :: a3 :: a4 :: a5 :: a6 :: a7 :: a8 :: a9 :: a10 :: a11 :: a12 :: a13 :: a14 :: a15 :: a16 :: a17 :: a18 :: a19 :: a20 :: a21 :: a22 :: a23 :: a24 :: a25 :: a26 :: a27 :: a28 :: a29 :: a30 :: a31 :: a32 :: a33 :: a34 :: a35 :: a36 :: a37 :: a38 :: a39 :: a40 :: a41 :: a42 :: a43 :: a44 :: a45 :: a46 :: a47 :: a48 :: a49 :: a50 :: a51 :: a52 :: a53 :: a54 :: a55 :: a56 :: a57 :: a58 :: a59 :: a60 :: a61 :: a62 :: [], _ => kernel_rfl
  | a0 :: a1 :: a2 :: a3 :: a4 :: a5 :: a6 :: a7 :: a8 :: a9 :: a10 :: a11 :: a12 :: a13 :: a14 :: a15 :: a16 :: a17 :: a18 :: a19 :: a20 :: a21 :: a22 :: a23 :: a24 :: a25 :: a26 :: a27 :: a28 :: a29 :: a30 :: a31 :: a32 :: a33 :: a34 :: a35 :: a36 :: a37 :: a38 :: a39 :: a40 :: a41 :: a42 :: a43 :: a44 :: a45 :: a46 :: a47 :: a48 :: a49 :: a50 :: a51 :: a52 :: a53 :: a54 :: a55 :: a56 :: a57 :: a58 :: a59 :: a60 :: a61 :: a62 :: a63 :: [], _ => kernel_rfl
  | a0 :: a1 :: a2 :: a3 :: a4 :: a5 :: a6 :: a7 :: a8 :: a9 :: a10 :: a11 :: a12 :: a13 :: a14 :: a15 :: a16 :: a17 :: a18 :: a19 :: a20 :: a21 :: a22 :: a23 :: a24 :: a25 :: a26 :: a27 :: a28 :: a29 :: a30 :: a31 :: a32 :: a33 :: a34 :: a35 :: a36 :: a37 :: a38 :: a39 :: a40 :: a41 :: a42 :: a43 :: a44 :: a45 :: a46 :: a47 :: a48 :: a49 :: a50 :: a51 :: a52 :: a53 :: a54 :: a55 :: a56 :: a57 :: a58 :: a59 :: a60 :: a61 :: a62 :: a63 :: a64 :: [], _ => kernel_rfl
  | a0 :: a1 :: a2 :: a3 :: a4 :: a5 :: a6 :: a7 :: a8 :: a9 :: a10 :: a11 :: a12 :: a13 :: a14 :: a15 :: a16 :: a17 :: a18 :: a19 :: a20 :: a21 :: a22 :: a23 :: a24 :: a25 :: a26 :: a27 :: a28 :: a29 :: a30 :: a31 :: a32 :: a33 :: a34 :: a35 :: a36 :: a37 :: a38 :: a39 :: a40 :: a41 :: a42 :: a43 :: a44 :: a45 :: a46 :: a47 :: a48 :: a49 :: a50 :: a51 :: a52 :: a53 :: a54 :: a55 :: a56 :: a57 :: a58 :: a59 :: a60 :: a61 :: a62 :: a63 :: a64 :: a65 :: [], _ => kernel_rfl
  | a0 :: a1 :: a2 :: a3 :: a4 :: a5 :: a6 :: a7 :: a8 :: a9 :: a10 :: a11 :: a12 :: a13 :: a14 :: a15 :: a16 :: a17 :: a18 :: a19 :: a20 :: a21 :: a22 :: a23 :: a24 :: a25 :: a26 :: a27 :: a28 :: a29 :: a30 :: a31 :: a32 :: a33 :: a34 :: a35 :: a36 :: a37 :: a38 :: a39 :: a40 :: a41 :: a42 :: a43 :: a44 :: a45 :: a46 :: a47 :: a48 :: a49 :: a50 :: a51 :: a52 :: a53 :: a54 :: a55 :: a56 :: a57 :: a58 :: a59 :: a60 :: a61 :: a62 :: a63 :: a64 :: a65 :: a66 :: [], _ => kernel_rfl
  | a0 :: a1 :: a2 :: a3 :: a4 :: a5 :: a6 :: a7 :: a8 :: a9 :: a10 :: a11 :: a12 :: a13 :: a14 :: a15 :: a16 :: a17 :: a18 :: a19 :: a20 :: a21 :: a22 :: a23 :: a24 :: a25 :: a26 :: a27 :: a28 :: a29 :: a30 :: a31 :: a32 :: a33 :: a34 :: a35 :: a36 :: a37 :: a38 :: a39 :: a40 :: a41 :: a42 :: a43 :: a44 :: a45 :: a46 :: a47 :: a48 :: a49 :: a50 :: a51 :: a52 :: a53 :: a54 :: a55 :: a56 :: a57 :: a58 :: a59 :: a60 :: a61 :: a62 :: a63 :: a64 :: a65 :: a66 :: a67 :: [], _ => kernel_rfl
  | a0 :: a1 :: a2 :: a3 :: a4 :: a5 :: a6 :: a7 :: a8 :: a9 :: a10 :: a11 :: a12 :: a13 :: a14 :: a15 :: a16 :: a17 :: a18 :: a19 :: a20 :: a21 :: a22 :: a23 :: a24 :: a25 :: a26 :: a27 :: a28 :: a29 :: a30 :: a31 :: a32 :: a33 :: a34 :: a35 :: a36 :: a37 :: a38 :: a39 :: a40 :: a41 :: a42 :: a43 :: a44 :: a45 :: a46 :: a47 :: a48 :: a49 :: a50 :: a51 :: a52 :: a53 :: a54 :: a55 :: a56 :: a57 :: a58 :: a59 :: a60 :: a61 :: a62 :: a63 :: a64 :: a65 :: a66 :: a67 :: a68 :: [], _ => kernel_rfl
  | a0 :: a1 :: a2 :: a3 :: a4 :: a5 :: a6 :: a7 :: a8 :: a9 :: a10 :: a11 :: a12 :: a13 :: a14 :: a15 :: a16 :: a17 :: a18 :: a19 :: a20 :: a21 :: a22 :: a23 :: a24 :: a25 :: a26 :: a27 :: a28 :: a29 :: a30 :: a31 :: a32 :: a33 :: a34 :: a35 :: a36 :: a37 :: a38 :: a39 :: a40 :: a41 :: a42 :: a43 :: a44 :: a45 :: a46 :: a47 :: a48 :: a49 :: a50 :: a51 :: a52 :: a53 :: a54 :: a55 :: a56 :: a57 :: a58 :: a59 :: a60 :: a61 :: a62 :: a63 :: a64 :: a65 :: a66 :: a67 :: a68 :: a69 :: [], _ => kernel_rfl
  | a0 :: a1 :: a2 :: a3 :: a4 :: a5 :: a6 :: a7 :: a8 :: a9 :: a10 :: a11 :: a12 :: a13 :: a14 :: a15 :: a16 :: a17 :: a18 :: a19 :: a20 :: a21 :: a22 :: a23 :: a24 :: a25 :: a26 :: a27 :: a28 :: a29 :: a30 :: a31 :: a32 :: a33 :: a34 :: a35 :: a36 :: a37 :: a38 :: a39 :: a40 :: a41 :: a42 :: a43 :: a44 :: a45 :: a46 :: a47 :: a48 :: a49 :: a50 :: a51 :: a52 :: a53 :: a54 :: a55 :: a56 :: a57 :: a58 :: a59 :: a60 :: a61 :: a62 :: a63 :: a64 :: a65 :: a66 :: a67 :: a68 :: a69 :: a70 :: [], _ => kernel_rfl
  | a0 :: a1 :: a2 :: a3 :: a4 :: a5 :: a6 :: a7 :: a8 :: a9 :: a10 :: a11 :: a12 :: a13 :: a14 :: a15 :: a16 :: a17 :: a18 :: a19 :: a20 :: a21 :: a22 :: a23 :: a24 :: a25 :: a26 :: a27 :: a28 :: a29 :: a30 :: a31 :: a32 :: a33 :: a34 :: a35 :: a36 :: a37 :: a38 :: a39 :: a40 :: a41 :: a42 :: a43 :: a44 :: a45 :: a46 :: a47 :: a48 :: a49 :: a50 :: a51 :: a52 :: a53 :: a54 :: a55 :: a56 :: a57 :: a58 :: a59 :: a60 :: a61 :: a62 :: a63 :: a64 :: a65 :: a66 :: a67 :: a68 :: a69 :: a70 :: a71 :: [], _ => kernel_rfl
  | _ :: _ :: _ :: _ :: _ :: _ :: _ :: _ :: _ :: _ :: _ :: _ :: _ :: _ :: _ :: _ :: _ :: _ :: _ :: _ :: _ :: _ :: _ :: _ :: _ :: _ :: _ :: _ :: _ :: _ :: _ :: _ :: _ :: _ :: _ :: _ :: _ :: _ :: _ :: _ :: _ :: _ :: _ :: _ :: _ :: _ :: _ :: _ :: _ :: _ :: _ :: _ :: _ :: _ :: _ :: _ :: _ :: _ :: _ :: _ :: _ :: _ :: _ :: _ :: _ :: _ :: _ :: _ :: _ :: _ :: _ :: _ :: _ :: _, h => simp only [List.length_cons] at h; omega
theorem newCall (as : List Value) (h : as.length ≤ 72) : checkBuiltinCall "zip.__new__" ⟨.type "zip" :: as, []⟩ = pure () := by
  match as, h with
  | [], _ => kernel_rfl
  | a0 :: [], _ => kernel_rfl
  | a0 :: a1 :: [], _ => kernel_rfl
  | a0 :: a1 :: a2 :: [], _ => kernel_rfl
  | a0 :: a1 :: a2 :: a3 :: [], _ => kernel_rfl
  | a0 :: a1 :: a2 :: a3 :: a4 :: [], _ => kernel_rfl
  | a0 :: a1 :: a2 :: a3 :: a4 :: a5 :: [], _ => kernel_rfl
  | a0 :: a1 :: a2 :: a3 :: a4 :: a5 :: a6 :: [], _ => kernel_rfl
  | a0 :: a1 :: a2 :: a3 :: a4 :: a5 :: a6 :: a7 :: [], _ => kernel_rfl
  | a0 :: a1 :: a2 :: a3 :: a4 :: a5 :: a6 :: a7 :: a8 :: [], _ => kernel_rfl
  | a0 :: a1 :: a2 :: a3 :: a4 :: a5 :: a6 :: a7 :: a8 :: a9 :: [], _ => kernel_rfl
  | a0 :: a1 :: a2 :: a3 :: a4 :: a5 :: a6 :: a7 :: a8 :: a9 :: a10 :: [], _ => kernel_rfl
  | a0 :: a1 :: a2 :: a3 :: a4 :: a5 :: a6 :: a7 :: a8 :: a9 :: a10 :: a11 :: [], _ => kernel_rfl
  | a0 :: a1 :: a2 :: a3 :: a4 :: a5 :: a6 :: a7 :: a8 :: a9 :: a10 :: a11 :: a12 :: [], _ => kernel_rfl
  | a0 :: a1 :: a2 :: a3 :: a4 :: a5 :: a6 :: a7 :: a8 :: a9 :: a10 :: a11 :: a12 :: a13 :: [], _ => kernel_rfl
  | a0 :: a1 :: a2 :: a3 :: a4 :: a5 :: a6 :: a7 :: a8 :: a9 :: a10 :: a11 :: a12 :: a13 :: a14 :: [], _ => kernel_rfl
  | a0 :: a1 :: a2 :: a3 :: a4 :: a5 :: a6 :: a7 :: a8 :: a9 :: a10 :: a11 :: a12 :: a13 :: a14 :: a15 :: [], _ => kernel_rfl
  | a0 :: a1 :: a2 :: a3 :: a4 :: a5 :: a6 :: a7 :: a8 :: a9 :: a10 :: a11 :: a12 :: a13 :: a14 :: a15 :: a16 :: [], _ => kernel_rfl
  | a0 :: a1 :: a2 :: a3 :: a4 :: a5 :: a6 :: a7 :: a8 :: a9 :: a10 :: a11 :: a12 :: a13 :: a14 :: a15 :: a16 :: a17 :: [], _ => kernel_rfl
  | a0 :: a1 :: a2 :: a3 :: a4 :: a5 :: a6 :: a7 :: a8 :: a9 :: a10 :: a11 :: a12 :: a13 :: a14 :: a15 :: a16 :: a17 :: a18 :: [], _ => kernel_rfl
  | a0 :: a1 :: a2 :: a3 :: a4 :: a5 :: a6 :: a7 :: a8 :: a9 :: a10 :: a11 :: a12 :: a13 :: a14 :: a15 :: a16 :: a17 :: a18 :: a19 :: [], _ => kernel_rfl
  | a0 :: a1 :: a2 :: a3 :: a4 :: a5 :: a6 :: a7 :: a8 :: a9 :: a10 :: a11 :: a12 :: a13 :: a14 :: a15 :: a16 :: a17 :: a18 :: a19 :: a20 :: [], _ => kernel_rfl
  | a0 :: a1 :: a2 :: a3 :: a4 :: a5 :: a6 :: a7 :: a8 :: a9 :: a10 :: a11 :: a12 :: a13 :: a14 :: a15 :: a16 :: a17 :: a18 :: a19 :: a20 :: a21 :: [], _ => kernel_rfl
  | a0 :: a1 :: a2 :: a3 :: a4 :: a5 :: a6 :: a7 :: a8 :: a9 :: a10 :: a11 :: a12 :: a13 :: a14 :: a15 :: a16 :: a17 :: a18 :: a19 :: a20 :: a21 :: a22 :: [], _ => kernel_rfl
  | a0 :: a1 :: a2 :: a3 :: a4 :: a5 :: a6 :: a7 :: a8 :: a9 :: a10 :: a11 :: a12 :: a13 :: a14 :: a15 :: a16 :: a17 :: a18 :: a19 :: a20 :: a21 :: a22 :: a23 :: [], _ => kernel_rfl
  | a0 :: a1 :: a2 :: a3 :: a4 :: a5 :: a6 :: a7 :: a8 :: a9 :: a10 :: a11 :: a12 :: a13 :: a14 :: a15 :: a16 :: a17 :: a18 :: a19 :: a20 :: a21 :: a22 :: a23 :: a24 :: [], _ => kernel_rfl
  | a0 :: a1 :: a2 :: a3 :: a4 :: a5 :: a6 :: a7 :: a8 :: a9 :: a10 :: a11 :: a12 :: a13 :: a14 :: a15 :: a16 :: a17 :: a18 :: a19 :: a20 :: a21 :: a22 :: a23 :: a24 :: a25 :: [], _ => kernel_rfl
  | a0 :: a1 :: a2 :: a3 :: a4 :: a5 :: a6 :: a7 :: a8 :: a9 :: a10 :: a11 :: a12 :: a13 :: a14 :: a15 :: a16 :: a17 :: a18 :: a19 :: a20 :: a21 :: a22 :: a23 :: a24 :: a25 :: a26 :: [], _ => kernel_rfl
  | a0 :: a1 :: a2 :: a3 :: a4 :: a5 :: a6 :: a7 :: a8 :: a9 :: a10 :: a11 :: a12 :: a13 :: a14 :: a15 :: a16 :: a17 :: a18 :: a19 :: a20 :: a21 :: a22 :: a23 :: a24 :: a25 :: a26 :: a27 :: [], _ => kernel_rfl
  | a0 :: a1 :: a2 :: a3 :: a4 :: a5 :: a6 :: a7 :: a8 :: a9 :: a10 :: a11 :: a12 :: a13 :: a14 :: a15 :: a16 :: a17 :: a18 :: a19 :: a20 :: a21 :: a22 :: a23 :: a24 :: a25 :: a26 :: a27 :: a28 :: [], _ => kernel_rfl
  | a0 :: a1 :: a2 :: a3 :: a4 :: a5 :: a6 :: a7 :: a8 :: a9 :: a10 :: a11 :: a12 :: a13 :: a14 :: a15 :: a16 :: a17 :: a18 :: a19 :: a20 :: a21 :: a22 :: a23 :: a24 :: a25 :: a26 :: a27 :: a28 :: a29 :: [], _ => kernel_rfl
  | a0 :: a1 :: a2 :: a3 :: a4 :: a5 :: a6 :: a7 :: a8 :: a9 :: a10 :: a11 :: a12 :: a13 :: a14 :: a15 :: a16 :: a17 :: a18 :: a19 :: a20 :: a21 :: a22 :: a23 :: a24 :: a25 :: a26 :: a27 :: a28 :: a29 :: a30 :: [], _ => kernel_rfl
  | a0 :: a1 :: a2 :: a3 :: a4 :: a5 :: a6 :: a7 :: a8 :: a9 :: a10 :: a11 :: a12 :: a13 :: a14 :: a15 :: a16 :: a17 :: a18 :: a19 :: a20 :: a21 :: a22 :: a23 :: a24 :: a25 :: a26 :: a27 :: a28 :: a29 :: a30 :: a31 :: [], _ => kernel_rfl
  | a0 :: a1 :: a2 :: a3 :: a4 :: a5 :: a6 :: a7 :: a8 :: a9 :: a10 :: a11 :: a12 :: a13 :: a14 :: a15 :: a16 :: a17 :: a18 :: a19 :: a20 :: a21 :: a22 :: a23 :: a24 :: a25 :: a26 :: a27 :: a28 :: a29 :: a30 :: a31 :: a32 :: [], _ => kernel_rfl
  | a0 :: a1 :: a2 :: a3 :: a4 :: a5 :: a6 :: a7 :: a8 :: a9 :: a10 :: a11 :: a12 :: a13 :: a14 :: a15 :: a16 :: a17 :: a18 :: a19 :: a20 :: a21 :: a22 :: a23 :: a24 :: a25 :: a26 :: a27 :: a28 :: a29 :: a30 :: a31 :: a32 :: a33 :: [], _ => kernel_rfl
  | a0 :: a1 :: a2 :: a3 :: a4 :: a5 :: a6 :: a7 :: a8 :: a9 :: a10 :: a11 :: a12 :: a13 :: a14 :: a15 :: a16 :: a17 :: a18 :: a19 :: a20 :: a21 :: a22 :: a23 :: a24 :: a25 :: a26 :: a27 :: a28 :: a29 :: a30 :: a31 :: a32 :: a33 :: a34 :: [], _ => kernel_rfl
  | a0 :: a1 :: a2 :: a3 :: a4 :: a5 :: a6 :: a7 :: a8 :: a9 :: a10 :: a11 :: a12 :: a13 :: a14 :: a15 :: a16 :: a17 :: a18 :: a19 :: a20 :: a21 :: a22 :: a23 :: a24 :: a25 :: a26 :: a27 :: a28 :: a29 :: a30 :: a31 :: a32 :: a33 :: a34 :: a35 :: [], _ => kernel_rfl
  | a0 :: a1 :: a2 :: a3 :: a4 :: a5 :: a6 :: a7 :: a8 :: a9 :: a10 :: a11 :: a12 :: a13 :: a14 :: a15 :: a16 :: a17 :: a18 :: a19 :: a20 :: a21 :: a22 :: a23 :: a24 :: a25 :: a26 :: a27 :: a28 :: a29 :: a30 :: a31 :: a32 :: a33 :: a34 :: a35 :: a36 :: [], _ => kernel_rfl
  | a0 :: a1 :: a2 :: a3 :: a4 :: a5 :: a6 :: a7 :: a8 :: a9 :: a10 :: a11 :: a12 :: a13 :: a14 :: a15 :: a16 :: a17 :: a18 :: a19 :: a20 :: a21 :: a22 :: a23 :: a24 :: a25 :: a26 :: a27 :: a28 :: a29 :: a30 :: a31 :: a32 :: a33 :: a34 :: a35 :: a36 :: a37 :: [], _ => kernel_rfl
  | a0 :: a1 :: a2 :: a3 :: a4 :: a5 :: a6 :: a7 :: a8 :: a9 :: a10 :: a11 :: a12 :: a13 :: a14 :: a15 :: a16 :: a17 :: a18 :: a19 :: a20 :: a21 :: a22 :: a23 :: a24 :: a25 :: a26 :: a27 :: a28 :: a29 :: a30 :: a31 :: a32 :: a33 :: a34 :: a35 :: a36 :: a37 :: a38 :: [], _ => kernel_rfl
  | a0 :: a1 :: a2 :: a3 :: a4 :: a5 :: a6 :: a7 :: a8 :: a9 :: a10 :: a11 :: a12 :: a13 :: a14 :: a15 :: a16 :: a17 :: a18 :: a19 :: a20 :: a21 :: a22 :: a23 :: a24 :: a25 :: a26 :: a27 :: a28 :: a29 :: a30 :: a31 :: a32 :: a33 :: a34 :: a35 :: a36 :: a37 :: a38 :: a39 :: [], _ => kernel_rfl
  | a0 :: a1 :: a2 :: a3 :: a4 :: a5 :: a6 :: a7 :: a8 :: a9 :: a10 :: a11 :: a12 :: a13 :: a14 :: a15 :: a16 :: a17 :: a18 :: a19 :: a20 :: a21 :: a22 :: a23 :: a24 :: a25 :: a26 :: a27 :: a28 :: a29 :: a30 :: a31 :: a32 :: a33 :: a34 :: a35 :: a36 :: a37 :: a38 :: a39 :: a40 :: [], _ => kernel_rfl
  | a0 :: a1 :: a2 :: a3 :: a4 :: a5 :: a6 :: a7 :: a8 :: a9 :: a10 :: a11 :: a12 :: a13 :: a14 :: a15 :: a16 :: a17 :: a18 :: a19 :: a20 :: a21 :: a22 :: a23 :: a24 :: a25 :: a26 :: a27 :: a28 :: a29 :: a30 :: a31 :: a32 :: a33 :: a34 :: a35 :: a36 :: a37 :: a38 :: a39 :: a40 :: a41 :: [], _ => kernel_rfl
  | a0 :: a1 :: a2 :: a3 :: a4 :: a5 :: a6 :: a7 :: a8 :: a9 :: a10 :: a11 :: a12 :: a13 :: a14 :: a15 :: a16 :: a17 :: a18 :: a19 :: a20 :: a21 :: a22 :: a23 :: a24 :: a25 :: a26 :: a27 :: a28 :: a29 :: a30 :: a31 :: a32 :: a33 :: a34 :: a35 :: a36 :: a37 :: a38 :: a39 :: a40 :: a41 :: a42 :: [], _ => kernel_rfl
  | a0 :: a1 :: a2 :: a3 :: a4 :: a5 :: a6 :: a7 :: a8 :: a9 :: a10 :: a11 :: a12 :: a13 :: a14 :: a15 :: a16 :: a17 :: a18 :: a19 :: a20 :: a21 :: a22 :: a23 :: a24 :: a25 :: a26 :: a27 :: a28 :: a29 :: a30 :: a31 :: a32 :: a33 :: a34 :: a35 :: a36 :: a37 :: a38 :: a39 :: a40 :: a41 :: a42 :: a43 :: [], _ => kernel_rfl
  | a0 :: a1 :: a2 :: a3 :: a4 :: a5 :: a6 :: a7 :: a8 :: a9 :: a10 :: a11 :: a12 :: a13 :: a14 :: a15 :: a16 :: a17 :: a18 :: a19 :: a20 :: a21 :: a22 :: a23 :: a24 :: a25 :: a26 :: a27 :: a28 :: a29 :: a30 :: a31 :: a32 :: a33 :: a34 :: a35 :: a36 :: a37 :: a38 :: a39 :: a40 :: a41 :: a42 :: a43 :: a44 :: [], _ => kernel_rfl
  | a0 :: a1 :: a2 :: a3 :: a4 :: a5 :: a6 :: a7 :: a8 :: a9 :: a10 :: a11 :: a12 :: a13 :: a14 :: a15 :: a16 :: a17 :: a18 :: a19 :: a20 :: a21 :: a22 :: a23 :: a24 :: a25 :: a26 :: a27 :: a28 :: a29 :: a30 :: a31 :: a32 :: a33 :: a34 :: a35 :: a36 :: a37 :: a38 :: a39 :: a40 :: a41 :: a42 :: a43 :: a44 :: a45 :: [], _ => kernel_rfl
  | a0 :: a1 :: a2 :: a3 :: a4 :: a5 :: a6 :: a7 :: a8 :: a9 :: a10 :: a11 :: a12 :: a13 :: a14 :: a15 :: a16 :: a17 :: a18 :: a19 :: a20 :: a21 :: a22 :: a23 :: a24 :: a25 :: a26 :: a27 :: a28 :: a29 :: a30 :: a31 :: a32 :: a33 :: a34 :: a35 :: a36 :: a37 :: a38 :: a39 :: a40 :: a41 :: a42 :: a43 :: a44 :: a45 :: a46 :: [], _ => kernel_rfl
  | a0 :: a1 :: a2 :: a3 :: a4 :: a5 :: a6 :: a7 :: a8 :: a9 :: a10 :: a11 :: a12 :: a13 :: a14 :: a15 :: a16 :: a17 :: a18 :: a19 :: a20 :: a21 :: a22 :: a23 :: a24 :: a25 :: a26 :: a27 :: a28 :: a29 :: a30 :: a31 :: a32 :: a33 :: a34 :: a35 :: a36 :: a37 :: a38 :: a39 :: a40 :: a41 :: a42 :: a43 :: a44 :: a45 :: a46 :: a47 :: [], _ => kernel_rfl
  | a0 :: a1 :: a2 :: a3 :: a4 :: a5 :: a6 :: a7 :: a8 :: a9 :: a10 :: a11 :: a12 :: a13 :: a14 :: a15 :: a16 :: a17 :: a18 :: a19 :: a20 :: a21 :: a22 :: a23 :: a24 :: a25 :: a26 :: a27 :: a28 :: a29 :: a30 :: a31 :: a32 :: a33 :: a34 :: a35 :: a36 :: a37 :: a38 :: a39 :: a40 :: a41 :: a42 :: a43 :: a44 :: a45 :: a46 :: a47 :: a48 :: [], _ => kernel_rfl
  | a0 :: a1 :: a2 :: a3 :: a4 :: a5 :: a6 :: a7 :: a8 :: a9 :: a10 :: a11 :: a12 :: a13 :: a14 :: a15 :: a16 :: a17 :: a18 :: a19 :: a20 :: a21 :: a22 :: a23 :: a24 :: a25 :: a26 :: a27 :: a28 :: a29 :: a30 :: a31 :: a32 :: a33 :: a34 :: a35 :: a36 :: a37 :: a38 :: a39 :: a40 :: a41 :: a42 :: a43 :: a44 :: a45 :: a46 :: a47 :: a48 :: a49 :: [], _ => kernel_rfl
  | a0 :: a1 :: a2 :: a3 :: a4 :: a5 :: a6 :: a7 :: a8 :: a9 :: a10 :: a11 :: a12 :: a13 :: a14 :: a15 :: a16 :: a17 :: a18 :: a19 :: a20 :: a21 :: a22 :: a23 :: a24 :: a25 :: a26 :: a27 :: a28 :: a29 :: a30 :: a31 :: a32 :: a33 :: a34 :: a35 :: a36 :: a37 :: a38 :: a39 :: a40 :: a41 :: a42 :: a43 :: a44 :: a45 :: a46 :: a47 :: a48 :: a49 :: a50 :: [], _ => kernel_rfl
  | a0 :: a1 :: a2 :: a3 :: a4 :: a5 :: a6 :: a7 :: a8 :: a9 :: a10 :: a11 :: a12 :: a13 :: a14 :: a15 :: a16 :: a17 :: a18 :: a19 :: a20 :: a21 :: a22 :: a23 :: a24 :: a25 :: a26 :: a27 :: a28 :: a29 :: a30 :: a31 :: a32 :: a33 :: a34 :: a35 :: a36 :: a37 :: a38 :: a39 :: a40 :: a41 :: a42 :: a43 :: a44 :: a45 :: a46 :: a47 :: a48 :: a49 :: a50 :: a51 :: [], _ => kernel_rfl
  | a0 :: a1 :: a2 :: a3 :: a4 :: a5 :: a6 :: a7 :: a8 :: a9 :: a10 :: a11 :: a12 :: a13 :: a14 :: a15 :: a16 :: a17 :: a18 :: a19 :: a20 :: a21 :: a22 :: a23 :: a24 :: a25 :: a26 :: a27 :: a28 :: a29 :: a30 :: a31 :: a32 :: a33 :: a34 :: a35 :: a36 :: a37 :: a38 :: a39 :: a40 :: a41 :: a42 :: a43 :: a44 :: a45 :: a46 :: a47 :: a48 :: a49 :: a50 :: a51 :: a52 :: [], _ => kernel_rfl
  | a0 :: a1 :: a2 :: a3 :: a4 :: a5 :: a6 :: a7 :: a8 :: a9 :: a10 :: a11 :: a12 :: a13 :: a14 :: a15 :: a16 :: a17 :: a18 :: a19 :: a20 :: a21 :: a22 :: a23 :: a24 :: a25 :: a26 :: a27 :: a28 :: a29 :: a30 :: a31 :: a32 :: a33 :: a34 :: a35 :: a36 :: a37 :: a38 :: a39 :: a40 :: a41 :: a42 :: a43 :: a44 :: a45 :: a46 :: a47 :: a48 :: a49 :: a50 :: a51 :: a52 :: a53 :: [], _ => kernel_rfl
  | a0 :: a1 :: a2 :: a3 :: a4 :: a5 :: a6 :: a7 :: a8 :: a9 :: a10 :: a11 :: a12 :: a13 :: a14 :: a15 :: a16 :: a17 :: a18 :: a19 :: a20 :: a21 :: a22 :: a23 :: a24 :: a25 :: a26 :: a27 :: a28 :: a29 :: a30 :: a31 :: a32 :: a33 :: a34 :: a35 :: a36 :: a37 :: a38 :: a39 :: a40 :: a41 :: a42 :: a43 :: a44 :: a45 :: a46 :: a47 :: a48 :: a49 :: a50 :: a51 :: a52 :: a53 :: a54 :: [], _ => kernel_rfl
  | a0 :: a1 :: a2 :: a3 :: a4 :: a5 :: a6 :: a7 :: a8 :: a9 :: a10 :: a11 :: a12 :: a13 :: a14 :: a15 :: a16 :: a17 :: a18 :: a19 :: a20 :: a21 :: a22 :: a23 :: a24 :: a25 :: a26 :: a27 :: a28 :: a29 :: a30 :: a31 :: a32 :: a33 :: a34 :: a35 :: a36 :: a37 :: a38 :: a39 :: a40 :: a41 :: a42 :: a43 :: a44 :: a45 :: a46 :: a47 :: a48 :: a49 :: a50 :: a51 :: a52 :: a53 :: a54 :: a55 :: [], _ => kernel_rfl
  | a0 :: a1 :: a2 :: a3 :: a4 :: a5 :: a6 :: a7 :: a8 :: a9 :: a10 :: a11 :: a12 :: a13 :: a14 :: a15 :: a16 :: a17 :: a18 :: a19 :: a20 :: a21 :: a22 :: a23 :: a24 :: a25 :: a26 :: a27 :: a28 :: a29 :: a30 :: a31 :: a32 :: a33 :: a34 :: a35 :: a36 :: a37 :: a38 :: a39 :: a40 :: a41 :: a42 :: a43 :: a44 :: a45 :: a46 :: a47 :: a48 :: a49 :: a50 :: a51 :: a52 :: a53 :: a54 :: a55 :: a56 :: [], _ => kernel_rfl
  | a0 :: a1 :: a2 :: a3 :: a4 :: a5 :: a6 :: a7 :: a8 :: a9 :: a10 :: a11 :: a12 :: a13 :: a14 :: a15 :: a16 :: a17 :: a18 :: a19 :: a20 :: a21 :: a22 :: a23 :: a24 :: a25 :: a26 :: a27 :: a28 :: a29 :: a30 :: a31 :: a32 :: a33 :: a34 :: a35 :: a36 :: a37 :: a38 :: a39 :: a40 :: a41 :: a42 :: a43 :: a44 :: a45 :: a46 :: a47 :: a48 :: a49 :: a50 :: a51 :: a52 :: a53 :: a54 :: a55 :: a56 :: a57 :: [], _ => kernel_rfl
  | a0 :: a1 :: a2 :: a3 :: a4 :: a5 :: a6 :: a7 :: a8 :: a9 :: a10 :: a11 :: a12 :: a13 :: a14 :: a15 :: a16 :: a17 :: a18 :: a19 :: a20 :: a21 :: a22 :: a23 :: a24 :: a25 :: a26 :: a27 :: a28 :: a29 :: a30 :: a31 :: a32 :: a33 :: a34 :: a35 :: a36 :: a37 :: a38 :: a39 :: a40 :: a41 :: a42 :: a43 :: a44 :: a45 :: a46 :: a47 :: a48 :: a49 :: a50 :: a51 :: a52 :: a53 :: a54 :: a55 :: a56 :: a57 :: a58 :: [], _ => kernel_rfl
  | a0 :: a1 :: a2 :: a3 :: a4 :: a5 :: a6 :: a7 :: a8 :: a9 :: a10 :: a11 :: a12 :: a13 :: a14 :: a15 :: a16 :: a17 :: a18 :: a19 :: a20 :: a21 :: a22 :: a23 :: a24 :: a25 :: a26 :: a27 :: a28 :: a29 :: a30 :: a31 :: a32 :: a33 :: a34 :: a35 :: a36 :: a37 :: a38 :: a39 :: a40 :: a41 :: a42 :: a43 :: a44 :: a45 :: a46 :: a47 :: a48 :: a49 :: a50 :: a51 :: a52 :: a53 :: a54 :: a55 :: a56 :: a57 :: a58 :: a59 :: [], _ => kernel_rfl
  | a0 :: a1 :: a2 :: a3 :: a4 :: a5 :: a6 :: a7 :: a8 :: a9 :: a10 :: a11 :: a12 :: a13 :: a14 :: a15 :: a16 :: a17 :: a18 :: a19 :: a20 :: a21 :: a22 :: a23 :: a24 :: a25 :: a26 :: a27 :: a28 :: a29 :: a30 :: a31 :: a32 :: a33 :: a34 :: a35 :: a36 :: a37 :: a38 :: a39 :: a40 :: a41 :: a42 :: a43 :: a44 :: a45 :: a46 :: a47 :: a48 :: a49 :: a50 :: a51 :: a52 :: a53 :: a54 :: a55 :: a56 :: a57 :: a58 :: a59 :: a60 :: [], _ => kernel_rfl
  | a0 :: a1 :: a2 :: a3 :: a4 :: a5 :: a6 :: a7 :: a8 :: a9 :: a10 :: a11 :: a12 :: a13 :: a14 :: a15 :: a16 :: a17 :: a18 :: a19 :: a20 :: a21 :: a22 :: a23 :: a24 :: a25 :: a26 :: a27 :: a28 :: a29 :: a30 :: a31 :: a32 :: a33 :: a34 :: a35 :: a36 :: a37 :: a38 :: a39 :: a40 :: a41 :: a42 :: a43 :: a44 :: a45 :: a46 :: a47 :: a48 :: a49 :: a50 :: a51 :: a52 :: a53 :: a54 :: a55 :: a56 :: a57 :: a58 :: a59 :: a60 :: a61 :: [], _ => kernel_rfl
  | a0 :: a1 :: a2 :: a3 :: a4 :: a5 :: a6 :: a7 :: a8 :: a9 :: a10 :: a11 :: a12 :: a13 :: a14 :: a15 :: a16 :: a17 :: a18 :: a19 :: a20 :: a21 :: a22 :: a23 :: a24 :: a25 :: a26 :: a27 :: a28 :: a29 :: a30 :: a31 :: a32 :: a33 :: a34 :: a35 :: a36 :: a37 :: a38 :: a39 :: a40 :: a41 :: a42 :: a43 :: a44 :: a45 :: a46 :: a47 :: a48 :: a49 :: a50 :: a51 :: a52 :: a53 :: a54 :: a55 :: a56 :: a57 :: a58 :: a59 :: a60 :: a61 :: a62 :: [], _ => kernel_rfl
  | a0 :: a1 :: a2 :: a3 :: a4 :: a5 :: a6 :: a7 :: a8 :: a9 :: a10 :: a11 :: a12 :: a13 :: a14 :: a15 :: a16 :: a17 :: a18 :: a19 :: a20 :: a21 :: a22 :: a23 :: a24 :: a25 :: a26 :: a27 :: a28 :: a29 :: a30 :: a31 :: a32 :: a33 :: a34 :: a35 :: a36 :: a37 :: a38 :: a39 :: a40 :: a41 :: a42 :: a43 :: a44 :: a45 :: a46 :: a47 :: a48 :: a49 :: a50 :: a51 :: a52 :: a53 :: a54 :: a55 :: a56 :: a57 :: a58 :: a59 :: a60 :: a61 :: a62 :: a63 :: [], _ => kernel_rfl
  | a0 :: a1 :: a2 :: a3 :: a4 :: a5 :: a6 :: a7 :: a8 :: a9 :: a10 :: a11 :: a12 :: a13 :: a14 :: a15 :: a16 :: a17 :: a18 :: a19 :: a20 :: a21 :: a22 :: a23 :: a24 :: a25 :: a26 :: a27 :: a28 :: a29 :: a30 :: a31 :: a32 :: a33 :: a34 :: a35 :: a36 :: a37 :: a38 :: a39 :: a40 :: a41 :: a42 :: a43 :: a44 :: a45 :: a46 :: a47 :: a48 :: a49 :: a50 :: a51 :: a52 :: a53 :: a54 :: a55 :: a56 :: a57 :: a58 :: a59 :: a60 :: a61 :: a62 :: a63 :: a64 :: [], _ => kernel_rfl
  | a0 :: a1 :: a2 :: a3 :: a4 :: a5 :: a6 :: a7 :: a8 :: a9 :: a10 :: a11 :: a12 :: a13 :: a14 :: a15 :: a16 :: a17 :: a18 :: a19 :: a20 :: a21 :: a22 :: a23 :: a24 :: a25 :: a26 :: a27 :: a28 :: a29 :: a30 :: a31 :: a32 :: a33 :: a34 :: a35 :: a36 :: a37 :: a38 :: a39 :: a40 :: a41 :: a42 :: a43 :: a44 :: a45 :: a46 :: a47 :: a48 :: a49 :: a50 :: a51 :: a52 :: a53 :: a54 :: a55 :: a56 :: a57 :: a58 :: a59 :: a60 :: a61 :: a62 :: a63 :: a64 :: a65 :: [], _ => kernel_rfl
  | a0 :: a1 :: a2 :: a3 :: a4 :: a5 :: a6 :: a7 :: a8 :: a9 :: a10 :: a11 :: a12 :: a13 :: a14 :: a15 :: a16 :: a17 :: a18 :: a19 :: a20 :: a21 :: a22 :: a23 :: a24 :: a25 :: a26 :: a27 :: a28 :: a29 :: a30 :: a31 :: a32 :: a33 :: a34 :: a35 :: a36 :: a37 :: a38 :: a39 :: a40 :: a41 :: a42 :: a43 :: a44 :: a45 :: a46 :: a47 :: a48 :: a49 :: a50 :: a51 :: a52 :: a53 :: a54 :: a55 :: a56 :: a57 :: a58 :: a59 :: a60 :: a61 :: a62 :: a63 :: a64 :: a65 :: a66 :: [], _ => kernel_rfl
  | a0 :: a1 :: a2 :: a3 :: a4 :: a5 :: a6 :: a7 :: a8 :: a9 :: a10 :: a11 :: a12 :: a13 :: a14 :: a15 :: a16 :: a17 :: a18 :: a19 :: a20 :: a21 :: a22 :: a23 :: a24 :: a25 :: a26 :: a27 :: a28 :: a29 :: a30 :: a31 :: a32 :: a33 :: a34 :: a35 :: a36 :: a37 :: a38 :: a39 :: a40 :: a41 :: a42 :: a43 :: a44 :: a45 :: a46 :: a47 :: a48 :: a49 :: a50 :: a51 :: a52 :: a53 :: a54 :: a55 :: a56 :: a57 :: a58 :: a59 :: a60 :: a61 :: a62 :: a63 :: a64 :: a65 :: a66 :: a67 :: [], _ => kernel_rfl
  | a0 :: a1 :: a2 :: a3 :: a4 :: a5 :: a6 :: a7 :: a8 :: a9 :: a10 :: a11 :: a12 :: a13 :: a14 :: a15 :: a16 :: a17 :: a18 :: a19 :: a20 :: a21 :: a22 :: a23 :: a24 :: a25 :: a26 :: a27 :: a28 :: a29 :: a30 :: a31 :: a32 :: a33 :: a34 :: a35 :: a36 :: a37 :: a38 :: a39 :: a40 :: a41 :: a42 :: a43 :: a44 :: a45 :: a46 :: a47 :: a48 :: a49 :: a50 :: a51 :: a52 :: a53 :: a54 :: a55 :: a56 :: a57 :: a58 :: a59 :: a60 :: a61 :: a62 :: a63 :: a64 :: a65 :: a66 :: a67 :: a68 :: [], _ => kernel_rfl
  | a0 :: a1 :: a2 :: a3 :: a4 :: a5 :: a6 :: a7 :: a8 :: a9 :: a10 :: a11 :: a12 :: a13 :: a14 :: a15 :: a16 :: a17 :: a18 :: a19 :: a20 :: a21 :: a22 :: a23 :: a24 :: a25 :: a26 :: a27 :: a28 :: a29 :: a30 :: a31 :: a32 :: a33 :: a34 :: a35 :: a36 :: a37 :: a38 :: a39 :: a40 :: a41 :: a42 :: a43 :: a44 :: a45 :: a46 :: a47 :: a48 :: a49 :: a50 :: a51 :: a52 :: a53 :: a54 :: a55 :: a56 :: a57 :: a58 :: a59 :: a60 :: a61 :: a62 :: a63 :: a64 :: a65 :: a66 :: a67 :: a68 :: a69 :: [], _ => kernel_rfl
  | a0 :: a1 :: a2 :: a3 :: a4 :: a5 :: a6 :: a7 :: a8 :: a9 :: a10 :: a11 :: a12 :: a13 :: a14 :: a15 :: a16 :: a17 :: a18 :: a19 :: a20 :: a21 :: a22 :: a23 :: a24 :: a25 :: a26 :: a27 :: a28 :: a29 :: a30 :: a31 :: a32 :: a33 :: a34 :: a35 :: a36 :: a37 :: a38 :: a39 :: a40 :: a41 :: a42 :: a43 :: a44 :: a45 :: a46 :: a47 :: a48 :: a49 :: a50 :: a51 :: a52 :: a53 :: a54 :: a55 :: a56 :: a57 :: a58 :: a59 :: a60 :: a61 :: a62 :: a63 :: a64 :: a65 :: a66 :: a67 :: a68 :: a69 :: a70 :: [], _ => kernel_rfl
  | a0 :: a1 :: a2 :: a3 :: a4 :: a5 :: a6 :: a7 :: a8 :: a9 :: a10 :: a11 :: a12 :: a13 :: a14 :: a15 :: a16 :: a17 :: a18 :: a19 :: a20 :: a21 :: a22 :: a23 :: a24 :: a25 :: a26 :: a27 :: a28 :: a29 :: a30 :: a31 :: a32 :: a33 :: a34 :: a35 :: a36 :: a37 :: a38 :: a39 :: a40 :: a41 :: a42 :: a43 :: a44 :: a45 :: a46 :: a47 :: a48 :: a49 :: a50 :: a51 :: a52 :: a53 :: a54 :: a55 :: a56 :: a57 :: a58 :: a59 :: a60 :: a61 :: a62 :: a63 :: a64 :: a65 :: a66 :: a67 :: a68 :: a69 :: a70 :: a71 :: [], _ => kernel_rfl
  | _ :: _ :: _ :: _ :: _ :: _ :: _ :: _ :: _ :: _ :: _ :: _ :: _ :: _ :: _ :: _ :: _ :: _ :: _ :: _ :: _ :: _ :: _ :: _ :: _ :: _ :: _ :: _ :: _ :: _ :: _ :: _ :: _ :: _ :: _ :: _ :: _ :: _ :: _ :: _ :: _ :: _ :: _ :: _ :: _ :: _ :: _ :: _ :: _ :: _ :: _ :: _ :: _ :: _ :: _ :: _ :: _ :: _ :: _ :: _ :: _ :: _ :: _ :: _ :: _ :: _ :: _ :: _ :: _ :: _ :: _ :: _ :: _ :: _, h => simp only [List.length_cons] at h; omega
theorem initArgs (o : Value) (as : List Value) (h : as.length ≤ 72) : argsOk "object.__init__" ⟨o :: as, []⟩ := by
  unfold argsOk
  rw [signature?_of (id := "object.__init__") (n := ['_', '_', 't', 'i', 'n', 'i', '_', '_']) (o := ['t', 'c', 'e', 'j', 'b', 'o']) (by kernel_rfl) F.owner_object]
  match as, h with
  | [], _ => kernel_rfl
  | a0 :: [], _ => kernel_rfl
  | a0 :: a1 :: [], _ => kernel_rfl
  | a0 :: a1 :: a2 :: [], _ => kernel_rfl
  | a0 :: a1 :: a2 :: a3 :: [], _ => kernel_rfl
  | a0 :: a1 :: a2 :: a3 :: a4 :: [], _ => kernel_rfl
  | a0 :: a1 :: a2 :: a3 :: a4 :: a5 :: [], _ => kernel_rfl
  | a0 :: a1 :: a2 :: a3 :: a4 :: a5 :: a6 :: [], _ => kernel_rfl
  | a0 :: a1 :: a2 :: a3 :: a4 :: a5 :: a6 :: a7 :: [], _ => kernel_rfl
  | a0 :: a1 :: a2 :: a3 :: a4 :: a5 :: a6 :: a7 :: a8 :: [], _ => kernel_rfl
  | a0 :: a1 :: a2 :: a3 :: a4 :: a5 :: a6 :: a7 :: a8 :: a9 :: [], _ => kernel_rfl
  | a0 :: a1 :: a2 :: a3 :: a4 :: a5 :: a6 :: a7 :: a8 :: a9 :: a10 :: [], _ => kernel_rfl
  | a0 :: a1 :: a2 :: a3 :: a4 :: a5 :: a6 :: a7 :: a8 :: a9 :: a10 :: a11 :: [], _ => kernel_rfl
  | a0 :: a1 :: a2 :: a3 :: a4 :: a5 :: a6 :: a7 :: a8 :: a9 :: a10 :: a11 :: a12 :: [], _ => kernel_rfl
  | a0 :: a1 :: a2 :: a3 :: a4 :: a5 :: a6 :: a7 :: a8 :: a9 :: a10 :: a11 :: a12 :: a13 :: [], _ => kernel_rfl
  | a0 :: a1 :: a2 :: a3 :: a4 :: a5 :: a6 :: a7 :: a8 :: a9 :: a10 :: a11 :: a12 :: a13 :: a14 :: [], _ => kernel_rfl
  | a0 :: a1 :: a2 :: a3 :: a4 :: a5 :: a6 :: a7 :: a8 :: a9 :: a10 :: a11 :: a12 :: a13 :: a14 :: a15 :: [], _ => kernel_rfl
  | a0 :: a1 :: a2 :: a3 :: a4 :: a5 :: a6 :: a7 :: a8 :: a9 :: a10 :: a11 :: a12 :: a13 :: a14 :: a15 :: a16 :: [], _ => kernel_rfl
  | a0 :: a1 :: a2 :: a3 :: a4 :: a5 :: a6 :: a7 :: a8 :: a9 :: a10 :: a11 :: a12 :: a13 :: a14 :: a15 :: a16 :: a17 :: [], _ => kernel_rfl
  | a0 :: a1 :: a2 :: a3 :: a4 :: a5 :: a6 :: a7 :: a8 :: a9 :: a10 :: a11 :: a12 :: a13 :: a14 :: a15 :: a16 :: a17 :: a18 :: [], _ => kernel_rfl
  | a0 :: a1 :: a2 :: a3 :: a4 :: a5 :: a6 :: a7 :: a8 :: a9 :: a10 :: a11 :: a12 :: a13 :: a14 :: a15 :: a16 :: a17 :: a18 :: a19 :: [], _ => kernel_rfl
  | a0 :: a1 :: a2 :: a3 :: a4 :: a5 :: a6 :: a7 :: a8 :: a9 :: a10 :: a11 :: a12 :: a13 :: a14 :: a15 :: a16 :: a17 :: a18 :: a19 :: a20 :: [], _ => kernel_rfl
  | a0 :: a1 :: a2 :: a3 :: a4 :: a5 :: a6 :: a7 :: a8 :: a9 :: a10 :: a11 :: a12 :: a13 :: a14 :: a15 :: a16 :: a17 :: a18 :: a19 :: a20 :: a21 :: [], _ => kernel_rfl
  | a0 :: a1 :: a2 :: a3 :: a4 :: a5 :: a6 :: a7 :: a8 :: a9 :: a10 :: a11 :: a12 :: a13 :: a14 :: a15 :: a16 :: a17 :: a18 :: a19 :: a20 :: a21 :: a22 :: [], _ => kernel_rfl
  | a0 :: a1 :: a2 :: a3 :: a4 :: a5 :: a6 :: a7 :: a8 :: a9 :: a10 :: a11 :: a12 :: a13 :: a14 :: a15 :: a16 :: a17 :: a18 :: a19 :: a20 :: a21 :: a22 :: a23 :: [], _ => kernel_rfl
  | a0 :: a1 :: a2 :: a3 :: a4 :: a5 :: a6 :: a7 :: a8 :: a9 :: a10 :: a11 :: a12 :: a13 :: a14 :: a15 :: a16 :: a17 :: a18 :: a19 :: a20 :: a21 :: a22 :: a23 :: a24 :: [], _ => kernel_rfl
  | a0 :: a1 :: a2 :: a3 :: a4 :: a5 :: a6 :: a7 :: a8 :: a9 :: a10 :: a11 :: a12 :: a13 :: a14 :: a15 :: a16 :: a17 :: a18 :: a19 :: a20 :: a21 :: a22 :: a23 :: a24 :: a25 :: [], _ => kernel_rfl
  | a0 :: a1 :: a2 :: a3 :: a4 :: a5 :: a6 :: a7 :: a8 :: a9 :: a10 :: a11 :: a12 :: a13 :: a14 :: a15 :: a16 :: a17 :: a18 :: a19 :: a20 :: a21 :: a22 :: a23 :: a24 :: a25 :: a26 :: [], _ => kernel_rfl
  | a0 :: a1 :: a2 :: a3 :: a4 :: a5 :: a6 :: a7 :: a8 :: a9 :: a10 :: a11 :: a12 :: a13 :: a14 :: a15 :: a16 :: a17 :: a18 :: a19 :: a20 :: a21 :: a22 :: a23 :: a24 :: a25 :: a26 :: a27 :: [], _ => kernel_rfl
  | a0 :: a1 :: a2 :: a3 :: a4 :: a5 :: a6 :: a7 :: a8 :: a9 :: a10 :: a11 :: a12 :: a13 :: a14 :: a15 :: a16 :: a17 :: a18 :: a19 :: a20 :: a21 :: a22 :: a23 :: a24 :: a25 :: a26 :: a27 :: a28 :: [], _ => kernel_rfl
  | a0 :: a1 :: a2 :: a3 :: a4 :: a5 :: a6 :: a7 :: a8 :: a9 :: a10 :: a11 :: a12 :: a13 :: a14 :: a15 :: a16 :: a17 :: a18 :: a19 :: a20 :: a21 :: a22 :: a23 :: a24 :: a25 :: a26 :: a27 :: a28 :: a29 :: [], _ => kernel_rfl
  | a0 :: a1 :: a2 :: a3 :: a4 :: a5 :: a6 :: a7 :: a8 :: a9 :: a10 :: a11 :: a12 :: a13 :: a14 :: a15 :: a16 :: a17 :: a18 :: a19 :: a20 :: a21 :: a22 :: a23 :: a24 :: a25 :: a26 :: a27 :: a28 :: a29 :: a30 :: [], _ => kernel_rfl
  | a0 :: a1 :: a2 :: a3 :: a4 :: a5 :: a6 :: a7 :: a8 :: a9 :: a10 :: a11 :: a12 :: a13 :: a14 :: a15 :: a16 :: a17 :: a18 :: a19 :: a20 :: a21 :: a22 :: a23 :: a24 :: a25 :: a26 :: a27 :: a28 :: a29 :: a30 :: a31 :: [], _ => kernel_rfl
  | a0 :: a1 :: a2 :: a3 :: a4 :: a5 :: a6 :: a7 :: a8 :: a9 :: a10 :: a11 :: a12 :: a13 :: a14 :: a15 :: a16 :: a17 :: a18 :: a19 :: a20 :: a21 :: a22 :: a23 :: a24 :: a25 :: a26 :: a27 :: a28 :: a29 :: a30 :: a31 :: a32 :: [], _ => kernel_rfl
  | a0 :: a1 :: a2 :: a3 :: a4 :: a5 :: a6 :: a7 :: a8 :: a9 :: a10 :: a11 :: a12 :: a13 :: a14 :: a15 :: a16 :: a17 :: a18 :: a19 :: a20 :: a21 :: a22 :: a23 :: a24 :: a25 :: a26 :: a27 :: a28 :: a29 :: a30 :: a31 :: a32 :: a33 :: [], _ => kernel_rfl
  | a0 :: a1 :: a2 :: a3 :: a4 :: a5 :: a6 :: a7 :: a8 :: a9 :: a10 :: a11 :: a12 :: a13 :: a14 :: a15 :: a16 :: a17 :: a18 :: a19 :: a20 :: a21 :: a22 :: a23 :: a24 :: a25 :: a26 :: a27 :: a28 :: a29 :: a30 :: a31 :: a32 :: a33 :: a34 :: [], _ => kernel_rfl
  | a0 :: a1 :: a2 :: a3 :: a4 :: a5 :: a6 :: a7 :: a8 :: a9 :: a10 :: a11 :: a12 :: a13 :: a14 :: a15 :: a16 :: a17 :: a18 :: a19 :: a20 :: a21 :: a22 :: a23 :: a24 :: a25 :: a26 :: a27 :: a28 :: a29 :: a30 :: a31 :: a32 :: a33 :: a34 :: a35 :: [], _ => kernel_rfl
  | a0 :: a1 :: a2 :: a3 :: a4 :: a5 :: a6 :: a7 :: a8 :: a9 :: a10 :: a11 :: a12 :: a13 :: a14 :: a15 :: a16 :: a17 :: a18 :: a19 :: a20 :: a21 :: a22 :: a23 :: a24 :: a25 :: a26 :: a27 :: a28 :: a29 :: a30 :: a31 :: a32 :: a33 :: a34 :: a35 :: a36 :: [], _ => kernel_rfl
  | a0 :: a1 :: a2 :: a3 :: a4 :: a5 :: a6 :: a7 :: a8 :: a9 :: a10 :: a11 :: a12 :: a13 :: a14 :: a15 :: a16 :: a17 :: a18 :: a19 :: a20 :: a21 :: a22 :: a23 :: a24 :: a25 :: a26 :: a27 :: a28 :: a29 :: a30 :: a31 :: a32 :: a33 :: a34 :: a35 :: a36 :: a37 :: [], _ => kernel_rfl
  | a0 :: a1 :: a2 :: a3 :: a4 :: a5 :: a6 :: a7 :: a8 :: a9 :: a10 :: a11 :: a12 :: a13 :: a14 :: a15 :: a16 :: a17 :: a18 :: a19 :: a20 :: a21 :: a22 :: a23 :: a24 :: a25 :: a26 :: a27 :: a28 :: a29 :: a30 :: a31 :: a32 :: a33 :: a34 :: a35 :: a36 :: a37 :: a38 :: [], _ => kernel_rfl
  | a0 :: a1 :: a2 :: a3 :: a4 :: a5 :: a6 :: a7 :: a8 :: a9 :: a10 :: a11 :: a12 :: a13 :: a14 :: a15 :: a16 :: a17 :: a18 :: a19 :: a20 :: a21 :: a22 :: a23 :: a24 :: a25 :: a26 :: a27 :: a28 :: a29 :: a30 :: a31 :: a32 :: a33 :: a34 :: a35 :: a36 :: a37 :: a38 :: a39 :: [], _ => kernel_rfl
  | a0 :: a1 :: a2 :: a3 :: a4 :: a5 :: a6 :: a7 :: a8 :: a9 :: a10 :: a11 :: a12 :: a13 :: a14 :: a15 :: a16 :: a17 :: a18 :: a19 :: a20 :: a21 :: a22 :: a23 :: a24 :: a25 :: a26 :: a27 :: a28 :: a29 :: a30 :: a31 :: a32 :: a33 :: a34 :: a35 :: a36 :: a37 :: a38 :: a39 :: a40 :: [], _ => kernel_rfl
  | a0 :: a1 :: a2 :: a3 :: a4 :: a5 :: a6 :: a7 :: a8 :: a9 :: a10 :: a11 :: a12 :: a13 :: a14 :: a15 :: a16 :: a17 :: a18 :: a19 :: a20 :: a21 :: a22 :: a23 :: a24 :: a25 :: a26 :: a27 :: a28 :: a29 :: a30 :: a31 :: a32 :: a33 :: a34 :: a35 :: a36 :: a37 :: a38 :: a39 :: a40 :: a41 :: [], _ => kernel_rfl
  | a0 :: a1 :: a2 :: a3 :: a4 :: a5 :: a6 :: a7 :: a8 :: a9 :: a10 :: a11 :: a12 :: a13 :: a14 :: a15 :: a16 :: a17 :: a18 :: a19 :: a20 :: a21 :: a22 :: a23 :: a24 :: a25 :: a26 :: a27 :: a28 :: a29 :: a30 :: a31 :: a32 :: a33 :: a34 :: a35 :: a36 :: a37 :: a38 :: a39 :: a40 :: a41 :: a42 :: [], _ => kernel_rfl
  | a0 :: a1 :: a2 :: a3 :: a4 :: a5 :: a6 :: a7 :: a8 :: a9 :: a10 :: a11 :: a12 :: a13 :: a14 :: a15 :: a16 :: a17 :: a18 :: a19 :: a20 :: a21 :: a22 :: a23 :: a24 :: a25 :: a26 :: a27 :: a28 :: a29 :: a30 :: a31 :: a32 :: a33 :: a34 :: a35 :: a36 :: a37 :: a38 :: a39 :: a40 :: a41 :: a42 :: a43 :: [], _ => kernel_rfl
  | a0 :: a1 :: a2 :: a3 :: a4 :: a5 :: a6 :: a7 :: a8 :: a9 :: a10 :: a11 :: a12 :: a13 :: a14 :: a15 :: a16 :: a17 :: a18 :: a19 :: a20 :: a21 :: a22 :: a23 :: a24 :: a25 :: a26 :: a27 :: a28 :: a29 :: a30 :: a31 :: a32 :: a33 :: a34 :: a35 :: a36 :: a37 :: a38 :: a39 :: a40 :: a41 :: a42 :: a43 :: a44 :: [], _ => kernel_rfl
  | a0 :: a1 :: a2 :: a3 :: a4 :: a5 :: a6 :: a7 :: a8 :: a9 :: a10 :: a11 :: a12 :: a13 :: a14 :: a15 :: a16 :: a17 :: a18 :: a19 :: a20 :: a21 :: a22 :: a23 :: a24 :: a25 :: a26 :: a27 :: a28 :: a29 :: a30 :: a31 :: a32 :: a33 :: a34 :: a35 :: a36 :: a37 :: a38 :: a39 :: a40 :: a41 :: a42 :: a43 :: a44 :: a45 :: [], _ => kernel_rfl
  | a0 :: a1 :: a2 :: a3 :: a4 :: a5 :: a6 :: a7 :: a8 :: a9 :: a10 :: a11 :: a12 :: a13 :: a14 :: a15 :: a16 :: a17 :: a18 :: a19 :: a20 :: a21 :: a22 :: a23 :: a24 :: a25 :: a26 :: a27 :: a28 :: a29 :: a30 :: a31 :: a32 :: a33 :: a34 :: a35 :: a36 :: a37 :: a38 :: a39 :: a40 :: a41 :: a42 :: a43 :: a44 :: a45 :: a46 :: [], _ => kernel_rfl
  | a0 :: a1 :: a2 :: a3 :: a4 :: a5 :: a6 :: a7 :: a8 :: a9 :: a10 :: a11 :: a12 :: a13 :: a14 :: a15 :: a16 :: a17 :: a18 :: a19 :: a20 :: a21 :: a22 :: a23 :: a24 :: a25 :: a26 :: a27 :: a28 :: a29 :: a30 :: a31 :: a32 :: a33 :: a34 :: a35 :: a36 :: a37 :: a38 :: a39 :: a40 :: a41 :: a42 :: a43 :: a44 :: a45 :: a46 :: a47 :: [], _ => kernel_rfl
  | a0 :: a1 :: a2 :: a3 :: a4 :: a5 :: a6 :: a7 :: a8 :: a9 :: a10 :: a11 :: a12 :: a13 :: a14 :: a15 :: a16 :: a17 :: a18 :: a19 :: a20 :: a21 :: a22 :: a23 :: a24 :: a25 :: a26 :: a27 :: a28 :: a29 :: a30 :: a31 :: a32 :: a33 :: a34 :: a35 :: a36 :: a37 :: a38 :: a39 :: a40 :: a41 :: a42 :: a43 :: a44 :: a45 :: a46 :: a47 :: a48 :: [], _ => kernel_rfl
  | a0 :: a1 :: a2 :: a3 :: a4 :: a5 :: a6 :: a7 :: a8 :: a9 :: a10 :: a11 :: a12 :: a13 :: a14 :: a15 :: a16 :: a17 :: a18 :: a19 :: a20 :: a21 :: a22 :: a23 :: a24 :: a25 :: a26 :: a27 :: a28 :: a29 :: a30 :: a31 :: a32 :: a33 :: a34 :: a35 :: a36 :: a37 :: a38 :: a39 :: a40 :: a41 :: a42 :: a43 :: a44 :: a45 :: a46 :: a47 :: a48 :: a49 :: [], _ => kernel_rfl
  | a0 :: a1 :: a2 :: a3 :: a4 :: a5 :: a6 :: a7 :: a8 :: a9 :: a10 :: a11 :: a12 :: a13 :: a14 :: a15 :: a16 :: a17 :: a18 :: a19 :: a20 :: a21 :: a22 :: a23 :: a24 :: a25 :: a26 :: a27 :: a28 :: a29 :: a30 :: a31 :: a32 :: a33 :: a34 :: a35 :: a36 :: a37 :: a38 :: a39 :: a40 :: a41 :: a42 :: a43 :: a44 :: a45 :: a46 :: a47 :: a48 :: a49 :: a50 :: [], _ => kernel_rfl
  | a0 :: a1 :: a2 :: a3 :: a4 :: a5 :: a6 :: a7 :: a8 :: a9 :: a10 :: a11 :: a12 :: a13 :: a14 :: a15 :: a16 :: a17 :: a18 :: a19 :: a20 :: a21 :: a22 :: a23 :: a24 :: a25 :: a26 :: a27 :: a28 :: a29 :: a30 :: a31 :: a32 :: a33 :: a34 :: a35 :: a36 :: a37 :: a38 :: a39 :: a40 :: a41 :: a42 :: a43 :: a44 :: a45 :: a46 :: a47 :: a48 :: a49 :: a50 :: a51 :: [], _ => kernel_rfl
  | a0 :: a1 :: a2 :: a3 :: a4 :: a5 :: a6 :: a7 :: a8 :: a9 :: a10 :: a11 :: a12 :: a13 :: a14 :: a15 :: a16 :: a17 :: a18 :: a19 :: a20 :: a21 :: a22 :: a23 :: a24 :: a25 :: a26 :: a27 :: a28 :: a29 :: a30 :: a31 :: a32 :: a33 :: a34 :: a35 :: a36 :: a37 :: a38 :: a39 :: a40 :: a41 :: a42 :: a43 :: a44 :: a45 :: a46 :: a47 :: a48 :: a49 :: a50 :: a51 :: a52 :: [], _ => kernel_rfl
  | a0 :: a1 :: a2 :: a3 :: a4 :: a5 :: a6 :: a7 :: a8 :: a9 :: a10 :: a11 :: a12 :: a13 :: a14 :: a15 :: a16 :: a17 :: a18 :: a19 :: a20 :: a21 :: a22 :: a23 :: a24 :: a25 :: a26 :: a27 :: a28 :: a29 :: a30 :: a31 :: a32 :: a33 :: a34 :: a35 :: a36 :: a37 :: a38 :: a39 :: a40 :: a41 :: a42 :: a43 :: a44 :: a45 :: a46 :: a47 :: a48 :: a49 :: a50 :: a51 :: a52 :: a53 :: [], _ => kernel_rfl
  | a0 :: a1 :: a2 :: a3 :: a4 :: a5 :: a6 :: a7 :: a8 :: a9 :: a10 :: a11 :: a12 :: a13 :: a14 :: a15 :: a16 :: a17 :: a18 :: a19 :: a20 :: a21 :: a22 :: a23 :: a24 :: a25 :: a26 :: a27 :: a28 :: a29 :: a30 :: a31 :: a32 :: a33 :: a34 :: a35 :: a36 :: a37 :: a38 :: a39 :: a40 :: a41 :: a42 :: a43 :: a44 :: a45 :: a46 :: a47 :: a48 :: a49 :: a50 :: a51 :: a52 :: a53 :: a54 :: [], _ => kernel_rfl
  | a0 :: a1 :: a2 :: a3 :: a4 :: a5 :: a6 :: a7 :: a8 :: a9 :: a10 :: a11 :: a12 :: a13 :: a14 :: a15 :: a16 :: a17 :: a18 :: a19 :: a20 :: a21 :: a22 :: a23 :: a24 :: a25 :: a26 :: a27 :: a28 :: a29 :: a30 :: a31 :: a32 :: a33 :: a34 :: a35 :: a36 :: a37 :: a38 :: a39 :: a40 :: a41 :: a42 :: a43 :: a44 :: a45 :: a46 :: a47 :: a48 :: a49 :: a50 :: a51 :: a52 :: a53 :: a54 :: a55 :: [], _ => kernel_rfl
  | a0 :: a1 :: a2 :: a3 :: a4 :: a5 :: a6 :: a7 :: a8 :: a9 :: a10 :: a11 :: a12 :: a13 :: a14 :: a15 :: a16 :: a17 :: a18 :: a19 :: a20 :: a21 :: a22 :: a23 :: a24 :: a25 :: a26 :: a27 :: a28 :: a29 :: a30 :: a31 :: a32 :: a33 :: a34 :: a35 :: a36 :: a37 :: a38 :: a39 :: a40 :: a41 :: a42 :: a43 :: a44 :: a45 :: a46 :: a47 :: a48 :: a49 :: a50 :: a51 :: a52 :: a53 :: a54 :: a55 :: a56 :: [], _ => kernel_rfl
  | a0 :: a1 :: a2 :: a3 :: a4 :: a5 :: a6 :: a7 :: a8 :: a9 :: a10 :: a11 :: a12 :: a13 :: a14 :: a15 :: a16 :: a17 :: a18 :: a19 :: a20 :: a21 :: a22 :: a23 :: a24 :: a25 :: a26 :: a27 :: a28 :: a29 :: a30 :: a31 :: a32 :: a33 :: a34 :: a35 :: a36 :: a37 :: a38 :: a39 :: a40 :: a41 :: a42 :: a43 :: a44 :: a45 :: a46 :: a47 :: a48 :: a49 :: a50 :: a51 :: a52 :: a53 :: a54 :: a55 :: a56 :: a57 :: [], _ => kernel_rfl
  | a0 :: a1 :: a2 :: a3 :: a4 :: a5 :: a6 :: a7 :: a8 :: a9 :: a10 :: a11 :: a12 :: a13 :: a14 :: a15 :: a16 :: a17 :: a18 :: a19 :: a20 :: a21 :: a22 :: a23 :: a24 :: a25 :: a26 :: a27 :: a28 :: a29 :: a30 :: a31 :: a32 :: a33 :: a34 :: a35 :: a36 :: a37 :: a38 :: a39 :: a40 :: a41 :: a42 :: a43 :: a44 :: a45 :: a46 :: a47 :: a48 :: a49 :: a50 :: a51 :: a52 :: a53 :: a54 :: a55 :: a56 :: a57 :: a58 :: [], _ => kernel_rfl
  | a0 :: a1 :: a2 :: a3 :: a4 :: a5 :: a6 :: a7 :: a8 :: a9 :: a10 :: a11 :: a12 :: a13 :: a14 :: a15 :: a16 :: a17 :: a18 :: a19 :: a20 :: a21 :: a22 :: a23 :: a24 :: a25 :: a26 :: a27 :: a28 :: a29 :: a30 :: a31 :: a32 :: a33 :: a34 :: a35 :: a36 :: a37 :: a38 :: a39 :: a40 :: a41 :: a42 :: a43 :: a44 :: a45 :: a46 :: a47 :: a48 :: a49 :: a50 :: a51 :: a52 :: a53 :: a54 :: a55 :: a56 :: a57 :: a58 :: a59 :: [], _ => kernel_rfl
  | a0 :: a1 :: a2 :: a3 :: a4 :: a5 :: a6 :: a7 :: a8 :: a9 :: a10 :: a11 :: a12 :: a13 :: a14 :: a15 :: a16 :: a17 :: a18 :: a19 :: a20 :: a21 :: a22 :: a23 :: a24 :: a25 :: a26 :: a27 :: a28 :: a29 :: a30 :: a31 :: a32 :: a33 :: a34 :: a35 :: a36 :: a37 :: a38 :: a39 :: a40 :: a41 :: a42 :: a43 :: a44 :: a45 :: a46 :: a47 :: a48 :: a49 :: a50 :: a51 :: a52 :: a53 :: a54 :: a55 :: a56 :: a57 :: a58 :: a59 :: a60 :: [], _ => kernel_rfl
  | a0 :: a1 :: a2 :: a3 :: a4 :: a5 :: a6 :: a7 :: a8 :: a9 :: a10 :: a11 :: a12 :: a13 :: a14 :: a15 :: a16 :: a17 :: a18 :: a19 :: a20 :: a21 :: a22 :: a23 :: a24 :: a25 :: a26 :: a27 :: a28 :: a29 :: a30 :: a31 :: a32 :: a33 :: a34 :: a35 :: a36 :: a37 :: a38 :: a39 :: a40 :: a41 :: a42 :: a43 :: a44 :: a45 :: a46 :: a47 :: a48 :: a49 :: a50 :: a51 :: a52 :: a53 :: a54 :: a55 :: a56 :: a57 :: a58 :: a59 :: a60 :: a61 :: [], _ => kernel_rfl
  | a0 :: a1 :: a2 :: a3 :: a4 :: a5 :: a6 :: a7 :: a8 :: a9 :: a10 :: a11 :: a12 :: a13 :: a14 :: a15 :: a16 :: a17 :: a18 :: a19 :: a20 :: a21 :: a22 :: a23 :: a24 :: a25 :: a26 :: a27 :: a28 :: a29 :: a30 :: a31 :: a32 :: a33 :: a34 :: a35 :: a36 :: a37 :: a38 :: a39 :: a40 :: a41 :: a42 :: a43 :: a44 :: a45 :: a46 :: a47 :: a48 :: a49 :: a50 :: a51 :: a52 :: a53 :: a54 :: a55 :: a56 :: a57 :: a58 :: a59 :: a60 :: a61 :: a62 :: [], _ => kernel_rfl
  | a0 :: a1 :: a2 :: a3 :: a4 :: a5 :: a6 :: a7 :: a8 :: a9 :: a10 :: a11 :: a12 :: a13 :: a14 :: a15 :: a16 :: a17 :: a18 :: a19 :: a20 :: a21 :: a22 :: a23 :: a24 :: a25 :: a26 :: a27 :: a28 :: a29 :: a30 :: a31 :: a32 :: a33 :: a34 :: a35 :: a36 :: a37 :: a38 :: a39 :: a40 :: a41 :: a42 :: a43 :: a44 :: a45 :: a46 :: a47 :: a48 :: a49 :: a50 :: a51 :: a52 :: a53 :: a54 :: a55 :: a56 :: a57 :: a58 :: a59 :: a60 :: a61 :: a62 :: a63 :: [], _ => kernel_rfl
  | a0 :: a1 :: a2 :: a3 :: a4 :: a5 :: a6 :: a7 :: a8 :: a9 :: a10 :: a11 :: a12 :: a13 :: a14 :: a15 :: a16 :: a17 :: a18 :: a19 :: a20 :: a21 :: a22 :: a23 :: a24 :: a25 :: a26 :: a27 :: a28 :: a29 :: a30 :: a31 :: a32 :: a33 :: a34 :: a35 :: a36 :: a37 :: a38 :: a39 :: a40 :: a41 :: a42 :: a43 :: a44 :: a45 :: a46 :: a47 :: a48 :: a49 :: a50 :: a51 :: a52 :: a53 :: a54 :: a55 :: a56 :: a57 :: a58 :: a59 :: a60 :: a61 :: a62 :: a63 :: a64 :: [], _ => kernel_rfl
  | a0 :: a1 :: a2 :: a3 :: a4 :: a5 :: a6 :: a7 :: a8 :: a9 :: a10 :: a11 :: a12 :: a13 :: a14 :: a15 :: a16 :: a17 :: a18 :: a19 :: a20 :: a21 :: a22 :: a23 :: a24 :: a25 :: a26 :: a27 :: a28 :: a29 :: a30 :: a31 :: a32 :: a33 :: a34 :: a35 :: a36 :: a37 :: a38 :: a39 :: a40 :: a41 :: a42 :: a43 :: a44 :: a45 :: a46 :: a47 :: a48 :: a49 :: a50 :: a51 :: a52 :: a53 :: a54 :: a55 :: a56 :: a57 :: a58 :: a59 :: a60 :: a61 :: a62 :: a63 :: a64 :: a65 :: [], _ => kernel_rfl
  | a0 :: a1 :: a2 :: a3 :: a4 :: a5 :: a6 :: a7 :: a8 :: a9 :: a10 :: a11 :: a12 :: a13 :: a14 :: a15 :: a16 :: a17 :: a18 :: a19 :: a20 :: a21 :: a22 :: a23 :: a24 :: a25 :: a26 :: a27 :: a28 :: a29 :: a30 :: a31 :: a32 :: a33 :: a34 :: a35 :: a36 :: a37 :: a38 :: a39 :: a40 :: a41 :: a42 :: a43 :: a44 :: a45 :: a46 :: a47 :: a48 :: a49 :: a50 :: a51 :: a52 :: a53 :: a54 :: a55 :: a56 :: a57 :: a58 :: a59 :: a60 :: a61 :: a62 :: a63 :: a64 :: a65 :: a66 :: [], _ => kernel_rfl
  | a0 :: a1 :: a2 :: a3 :: a4 :: a5 :: a6 :: a7 :: a8 :: a9 :: a10 :: a11 :: a12 :: a13 :: a14 :: a15 :: a16 :: a17 :: a18 :: a19 :: a20 :: a21 :: a22 :: a23 :: a24 :: a25 :: a26 :: a27 :: a28 :: a29 :: a30 :: a31 :: a32 :: a33 :: a34 :: a35 :: a36 :: a37 :: a38 :: a39 :: a40 :: a41 :: a42 :: a43 :: a44 :: a45 :: a46 :: a47 :: a48 :: a49 :: a50 :: a51 :: a52 :: a53 :: a54 :: a55 :: a56 :: a57 :: a58 :: a59 :: a60 :: a61 :: a62 :: a63 :: a64 :: a65 :: a66 :: a67 :: [], _ => kernel_rfl
  | a0 :: a1 :: a2 :: a3 :: a4 :: a5 :: a6 :: a7 :: a8 :: a9 :: a10 :: a11 :: a12 :: a13 :: a14 :: a15 :: a16 :: a17 :: a18 :: a19 :: a20 :: a21 :: a22 :: a23 :: a24 :: a25 :: a26 :: a27 :: a28 :: a29 :: a30 :: a31 :: a32 :: a33 :: a34 :: a35 :: a36 :: a37 :: a38 :: a39 :: a40 :: a41 :: a42 :: a43 :: a44 :: a45 :: a46 :: a47 :: a48 :: a49 :: a50 :: a51 :: a52 :: a53 :: a54 :: a55 :: a56 :: a57 :: a58 :: a59 :: a60 :: a61 :: a62 :: a63 :: a64 :: a65 :: a66 :: a67 :: a68 :: [], _ => kernel_rfl
  | a0 :: a1 :: a2 :: a3 :: a4 :: a5 :: a6 :: a7 :: a8 :: a9 :: a10 :: a11 :: a12 :: a13 :: a14 :: a15 :: a16 :: a17 :: a18 :: a19 :: a20 :: a21 :: a22 :: a23 :: a24 :: a25 :: a26 :: a27 :: a28 :: a29 :: a30 :: a31 :: a32 :: a33 :: a34 :: a35 :: a36 :: a37 :: a38 :: a39 :: a40 :: a41 :: a42 :: a43 :: a44 :: a45 :: a46 :: a47 :: a48 :: a49 :: a50 :: a51 :: a52 :: a53 :: a54 :: a55 :: a56 :: a57 :: a58 :: a59 :: a60 :: a61 :: a62 :: a63 :: a64 :: a65 :: a66 :: a67 :: a68 :: a69 :: [], _ => kernel_rfl
  | a0 :: a1 :: a2 :: a3 :: a4 :: a5 :: a6 :: a7 :: a8 :: a9 :: a10 :: a11 :: a12 :: a13 :: a14 :: a15 :: a16 :: a17 :: a18 :: a19 :: a20 :: a21 :: a22 :: a23 :: a24 :: a25 :: a26 :: a27 :: a28 :: a29 :: a30 :: a31 :: a32 :: a33 :: a34 :: a35 :: a36 :: a37 :: a38 :: a39 :: a40 :: a41 :: a42 :: a43 :: a44 :: a45 :: a46 :: a47 :: a48 :: a49 :: a50 :: a51 :: a52 :: a53 :: a54 :: a55 :: a56 :: a57 :: a58 :: a59 :: a60 :: a61 :: a62 :: a63 :: a64 :: a65 :: a66 :: a67 :: a68 :: a69 :: a70 :: [], _ => kernel_rfl
  | a0 :: a1 :: a2 :: a3 :: a4 :: a5 :: a6 :: a7 :: a8 :: a9 :: a10 :: a11 :: a12 :: a13 :: a14 :: a15 :: a16 :: a17 :: a18 :: a19 :: a20 :: a21 :: a22 :: a23 :: a24 :: a25 :: a26 :: a27 :: a28 :: a29 :: a30 :: a31 :: a32 :: a33 :: a34 :: a35 :: a36 :: a37 :: a38 :: a39 :: a40 :: a41 :: a42 :: a43 :: a44 :: a45 :: a46 :: a47 :: a48 :: a49 :: a50 :: a51 :: a52 :: a53 :: a54 :: a55 :: a56 :: a57 :: a58 :: a59 :: a60 :: a61 :: a62 :: a63 :: a64 :: a65 :: a66 :: a67 :: a68 :: a69 :: a70 :: a71 :: [], _ => kernel_rfl
  | _ :: _ :: _ :: _ :: _ :: _ :: _ :: _ :: _ :: _ :: _ :: _ :: _ :: _ :: _ :: _ :: _ :: _ :: _ :: _ :: _ :: _ :: _ :: _ :: _ :: _ :: _ :: _ :: _ :: _ :: _ :: _ :: _ :: _ :: _ :: _ :: _ :: _ :: _ :: _ :: _ :: _ :: _ :: _ :: _ :: _ :: _ :: _ :: _ :: _ :: _ :: _ :: _ :: _ :: _ :: _ :: _ :: _ :: _ :: _ :: _ :: _ :: _ :: _ :: _ :: _ :: _ :: _ :: _ :: _ :: _ :: _ :: _ :: _, h => simp only [List.length_cons] at h; omega
end
end ZL

namespace ZL
open PySem
def pushIts : Heap → List Addr → Heap
  | h, [] => h
  | h, l :: ls => pushIts (h.push { cls := .type "list_iterator", data := .fields #[.ref l, .int 0 0] }) ls
theorem push_size : ∀ (ls : List Addr) (h : Heap), (pushIts h ls).objs.size = h.objs.size + ls.length
  | [], h => rfl
  | l :: ls, h => by rw [pushIts, push_size ls, Heap.size_push, List.length_cons]; omega
theorem push_old : ∀ (ls : List Addr) (h : Heap) {c : Addr} {o : Obj}, h.get? c = some o → (pushIts h ls).get? c = some o
  | [], h, _, _, e => e
  | l :: ls, h, c, o, e => push_old ls _ (Heap.get?_push_of_some _ e)
theorem push_it : ∀ (ls : List Addr) (h : Heap) (k : Nat) (row : Addr), ls[k]? = some row → (pushIts h ls).IsListIter (h.objs.size + k) row 0
  | [], h, k, row, e => by simp at e
  | l :: ls, h, 0, row, e => by
    simp at e
    subst e
    exact ⟨_, push_old ls _ (Heap.get?_push_size _ rfl), rfl, rfl⟩
  | l :: ls, h, k + 1, row, e => by
    have := push_it ls (h.push { cls := .type "list_iterator", data := .fields #[.ref l, .int 0 0] }) k row (by simpa using e)
    rw [Heap.size_push] at this
    rw [show h.objs.size + (k + 1) = h.objs.size + 1 + k by omega]
    exact this
theorem push_snoc : ∀ (ls : List Addr) (h : Heap) (l : Addr), pushIts h (ls ++ [l]) = (pushIts h ls).push { cls := .type "list_iterator", data := .fields #[.ref l, .int 0 0] }
  | [], h, l => rfl
  | x :: ls, h, l => by rw [List.cons_append, pushIts, push_snoc ls, pushIts]
def Made (h : Heap) (rows : List Addr) (h' : Heap) : Prop := St0 h' h.objs.size rows .none false (fun _ => 0) ∧ ∀ c o, h.get? c = some o → h'.get? c = some o
set_option maxHeartbeats 4000000 in
theorem meets_new (rows : List Addr) (hn : rows.length ≤ 72) :
    Meets (Builtin.«zip.__new__» ⟨.type "zip" :: rows.map Value.ref, []⟩) (fun _ R s => (∀ row ∈ rows, ∃ items, s.heap.IsList row items) ∧
      ∀ h', Made s.heap rows h' → R (.ok (.ret (.ref (s.heap.objs.size + rows.length + 2)))) { s with heap := h' }) :=
  .of_wp fun prog w A R s h => by
    obtain ⟨hp, g, d, tk, os⟩ := s
    obtain ⟨ht, h⟩ := h
    have hsub := sub_zip
    wp_walk
    show wpAny (model prog w) A.in1 (forIn (rows.map Value.ref) (#[] : Array Value) (fun x its => holding its.toList (pyIter x) >>= fun v => pure (ForInStep.yield (its.push v)))) _ _ _
    refine wpAny_mono (wpAny_forIn_list _ (fun rest b s' => ∃ k, k ≤ rows.length ∧ rest = (rows.map Value.ref).drop k ∧ b = (itsOf hp.objs.size k).toArray ∧ s' = ⟨pushIts hp (rows.take k), g, d, tk, os⟩)
      (fun b s' => b = (itsOf hp.objs.size rows.length).toArray ∧ s' = ⟨pushIts hp rows, g, d, tk, os⟩) ?turn ?fin _ _ ?start) ?after (fun _ _ x => x)
    case start => exact ⟨0, Nat.zero_le _, rfl, rfl, by rw [List.take_zero]; rfl⟩
    case fin =>
      rintro b s' ⟨k, hk, e, rfl, rfl⟩
      have hk2 : rows.length ≤ k := by
        have := congrArg List.length e
        rw [List.length_drop, List.length_map] at this
        simp at this
        omega
      obtain rfl : k = rows.length := by omega
      exact ⟨rfl, by rw [List.take_length]⟩
    case turn =>
      rintro x rest b s' ⟨k, hk, e, rfl, rfl⟩
      obtain ⟨e1, e2⟩ := cons_drop e
      rw [List.getElem?_map] at e1
      obtain ⟨row, hrow, rfl⟩ := Option.map_eq_some_iff.mp e1
      obtain ⟨items, hI⟩ := ht row (List.mem_of_getElem? hrow)
      have hk2 := (List.getElem?_eq_some_iff.mp hrow).1
      have hI2 : (pushIts hp (rows.take k)).IsList row items := by
        obtain ⟨o, ho, r⟩ := hI
        exact ⟨o, push_old _ _ ho, r⟩
      refine wpAny_bind (wpAny_holding (wpAny_pyIter_list (s := ⟨pushIts hp (rows.take k), g, d, tk, os⟩) hI2 (wpAny_pure ⟨k + 1, by omega, e2, ?_, ?_⟩)))
      · show (itsOf hp.objs.size k).toArray.push (.ref (pushIts hp (rows.take k)).objs.size) = _
        rw [push_size, List.length_take, Nat.min_eq_left (by omega)]
        unfold itsOf
        rw [List.range_succ, List.map_append]
        simp
      · rw [List.take_add_one, hrow, Option.toList_some, push_snoc]
    case after =>
      rintro b s' ⟨rfl, rfl⟩
      have hz : ∀ l : List Value, l.length ≤ 72 → l.length ≤ sizeLine := fun l h => Nat.le_trans h (by decide)
      refine wpAny_pure ?_
      refine wpAny_bind (wpAny_newTuple (s := ⟨pushIts hp rows, g, d, tk, os⟩) ?_ (hz _ (by rw [List.toList_toArray, its_len]; exact hn)))
      refine wpAny_bind (wpAny_newTuple (s := ⟨(pushIts hp rows).push _, g, d, tk, os⟩) ?_ (hz _ (by rw [List.length_map, List.toList_toArray, its_len]; exact hn)))
      refine wpAny_bind (m := Builtin.SmallTypes.newRecord _ _) ?_
      unfold Builtin.SmallTypes.newRecord
      refine wpAny_newObj_type (s := ⟨((pushIts hp rows).push _).push _, g, d, tk, os⟩) ?_ (by show 5 ≤ sizeLine + 2; decide)
      have e1 : (pushIts hp rows).objs.size = hp.objs.size + rows.length := push_size rows hp
      have up : ∀ c o, hp.get? c = some o → (((pushIts hp rows).push { cls := .type "tuple", data := .seq (itsOf hp.objs.size rows.length).toArray.toList.toArray }).push { cls := .type "tuple", data := .seq ((itsOf hp.objs.size rows.length).toArray.toList.map fun _ => Value.none).toArray }).get? c = some o :=
        fun c o e => Heap.get?_push_of_some _ (Heap.get?_push_of_some _ (push_old _ _ e))
      have upI : ∀ c o, (pushIts hp rows).get? c = some o → (((pushIts hp rows).push { cls := .type "tuple", data := .seq (itsOf hp.objs.size rows.length).toArray.toList.toArray }).push { cls := .type "tuple", data := .seq ((itsOf hp.objs.size rows.length).toArray.toList.map fun _ => Value.none).toArray }).get? c = some o :=
        fun c o e => Heap.get?_push_of_some _ (Heap.get?_push_of_some _ e)
      dsimp only [Builtin.SmallTypes.ownedTupleFields, List.cons_append, List.nil_append]
      rw [Heap.size_push, Heap.size_push, e1]
      refine wpAny_pure ⟨_, rfl, ?_⟩
      have e2 : hp.objs.size + rows.length + 1 + 1 = hp.objs.size + rows.length + 2 := rfl
      rw [e2]
      refine h _ ⟨⟨?_, ?_, ⟨(itsOf hp.objs.size rows.length).map fun _ => Value.none, by rw [List.length_map, its_len], ?_⟩, fun k row hk => ?_⟩, fun c o e => Heap.get?_push_of_some _ (up c o e)⟩
      · show Heap.get? _ _ = _
        have e3 : (((pushIts hp rows).push { cls := .type "tuple", data := .seq (itsOf hp.objs.size rows.length).toArray.toList.toArray }).push { cls := .type "tuple", data := .seq ((itsOf hp.objs.size rows.length).toArray.toList.map fun _ => Value.none).toArray }).objs.size = hp.objs.size + rows.length + 2 := by rw [Heap.size_push, Heap.size_push, e1]
        rw [← e3]
        exact Heap.get?_push_size _ rfl
      · show Heap.get? _ _ = _
        refine Heap.get?_push_of_some _ (Heap.get?_push_of_some _ ?_)
        rw [← e1]
        exact Heap.get?_push_size _ rfl
      · show Heap.get? _ _ = _
        refine Heap.get?_push_of_some _ ?_
        have e4 : ((pushIts hp rows).push { cls := .type "tuple", data := .seq (itsOf hp.objs.size rows.length).toArray.toList.toArray }).objs.size = hp.objs.size + rows.length + 1 := by rw [Heap.size_push, e1]
        rw [← e4]
        exact Heap.get?_push_size _ rfl
      · obtain ⟨o, ho, r⟩ := push_it rows hp k row hk
        exact ⟨o, Heap.get?_push_of_some _ (upI _ _ ho), r⟩
section
variable {prog : Program} {w : World} {A : Around} {E : Value → Shared → Prop} {s : Shared}
theorem call_zipN {rows : List Addr} {Q : Value → Shared → Prop} (hn : rows.length ≤ 72) (ht : ∀ row ∈ rows, ∃ items, s.heap.IsList row items)
    (h : ∀ h', Made s.heap rows h' → Q (.ref (s.heap.objs.size + rows.length + 2)) { s with heap := h' }) : wpAny (model prog w) A (call (.type "zip") (rows.map Value.ref)) Q E s := by
  refine callType_new F.called_zip (by decide) (typeCall _ (by rw [List.length_map]; exact hn)) (newCall _ (by rw [List.length_map]; exact hn)) (fun obj => initArgs obj _ (by rw [List.length_map]; exact hn)) F.entry_zip_new
    (meets_new rows hn) ⟨ht, fun h' m => ?_⟩
  exact ⟨⟨_, m.1.zip, rfl⟩, h h' m⟩
end
end ZL

set_option maxHeartbeats 1000000
/-! zip(*rows) over tuples, a name as the target -/
namespace ZS
open PySem
abbrev ZAt (h : Heap) (z TI TO : Addr) (f0 : Value) (f1 : Bool) : Prop :=
  h.get? z = some { cls := .type "zip", dict := none, data := .fields #[f0, .bool f1, .bool false, .ref TI, .ref TO], slots := #[] }
abbrev TAt (h : Heap) (T : Addr) (xs : List Value) : Prop := h.get? T = some { cls := .type "tuple", data := .seq xs.toArray }
def itsOf (b n : Nat) : List Value := (List.range n).map fun k => .ref (b + k)
theorem its_len (b n : Nat) : (itsOf b n).length = n := by simp [itsOf]
theorem its_at {b n k : Nat} (h : k < n) : (itsOf b n)[k]? = some (.ref (b + k)) := by simp [itsOf, h]
/-- where the zip's own objects stand: the iterators from b on, then the tuple of them, the tuple it keeps, the zip -/
structure St0 (h : Heap) (b : Nat) (rows : List Addr) (f0 : Value) (f1 : Bool) (at_ : Nat → Nat) : Prop where
  zip : ZAt h (b + rows.length + 2) (b + rows.length) (b + rows.length + 1) f0 f1
  ti : TAt h (b + rows.length) (itsOf b rows.length)
  to : ∃ kept : List Value, kept.length = rows.length ∧ TAt h (b + rows.length + 1) kept
  it : ∀ (k : Nat) (row : Addr), rows[k]? = some row → h.IsTupleIter (b + k) row (at_ k)
/-- what is not the zip's own stays -/
def Off (b n : Nat) (h h' : Heap) : Prop := ∀ c o, (c < b ∨ b + n + 2 < c) → h.get? c = some o → h'.get? c = some o
theorem Off.refl (b n : Nat) (h : Heap) : Off b n h h := fun _ _ _ e => e
theorem Off.trans {b n : Nat} {h h1 h2 : Heap} (x : Off b n h h1) (y : Off b n h1 h2) : Off b n h h2 := fun c o r e => y c o r (x c o r e)
theorem Off.but {b n c0 : Nat} {h h' : Heap} (e : Heap.SameBut c0 h h') (hc : b ≤ c0 ∧ c0 ≤ b + n + 2) : Off b n h h' := fun c o r x => by
  rw [e.2 c (fun z => by subst z; omega)]; exact x
section
variable {prog : Program} {w : World} {A : Around} {E : Value → Shared → Prop} {s : Shared}
theorem alive {a : Addr} {Q : Option Obj → Shared → Prop} (h : Q (s.heap.get? a) s) : wpAny (model prog w) A (loadIfAlive a) Q E s := by
  intro Γ p hΓ
  unfold loadIfAlive
  rw [Sem.wp_loadIfAlive]
  exact wpAny_pure h Γ p hΓ
theorem nextOf_item {it l : Addr} {i : Nat} {items} {x : Value} {Q : Value → Shared → Prop} (hit : s.heap.IsTupleIter it l i) (hl : s.heap.IsTuple l items) (hx : items[i]? = some x)
    (hQ : ∀ h', h'.IsTupleIter it l (i + 1) → Heap.SameBut it s.heap h' → Q x { s with heap := h' }) : wpAny (model prog w) A (Builtin.SmallTypes.nextOf (.ref it)) Q E s := RZ.nextOf_tuple_item hit hl hx hQ
/-- the draws, one iterator after another, into the tuple that the zip keeps -/
structure Half (s : Shared) (b : Nat) (rows : List Addr) (i : Nat) (col : List Value) (f0 : Value) (f1 : Bool) (k : Nat) (s' : Shared) : Prop where
  ex : ∃ h', s' = { s with heap := h' } ∧ h'.objs.size = s.heap.objs.size ∧ Off b rows.length s.heap h' ∧ ZAt h' (b + rows.length + 2) (b + rows.length) (b + rows.length + 1) f0 f1 ∧ TAt h' (b + rows.length) (itsOf b rows.length) ∧
    (∃ kept : List Value, kept.length = rows.length ∧ TAt h' (b + rows.length + 1) kept ∧ kept.take k = col.take k) ∧ ∀ (j : Nat) (row : Addr), rows[j]? = some row → h'.IsTupleIter (b + j) row (if j < k then i + 1 else i)
theorem ne_nat {a b : Nat} (h : ¬ (a = b)) : (show Addr from a) ≠ (show Addr from b) := h
theorem tuple_off {b n : Nat} {h h' : Heap} {l : Addr} {items : Array Value} (x : Off b n h h') (hl : l < b) (ht : h.IsTuple l items) : h'.IsTuple l items := by
  obtain ⟨o, ho, r⟩ := ht
  exact ⟨o, x l o (.inl hl) ho, r⟩
end
end ZS

namespace ZS
open PySem
section
variable {prog : Program} {w : World} {A : Around} {E : Value → Shared → Prop} {s : Shared}
theorem own_free {z TI TO : Addr} {f0 : Value} {f1 : Bool} (hz : ZAt s.heap z TI TO f0 f1) (hf : f0 = .none ∨ ∃ a : Nat, f0 = rawInt a) :
    wpAny (model prog w) A (Builtin.SmallTypes.ownedTupleIsFree (.ref z)) (fun r s' => (r = true ∧ s' = s) ∨ (r = false ∧ ∃ h', s' = { s with heap := h' } ∧ ZAt h' z TI TO f0 true ∧ Heap.SameBut z s.heap h')) E s := by
  unfold Builtin.SmallTypes.ownedTupleIsFree
  rcases hf with rfl | ⟨a, rfl⟩
  · exact wpAny_bind (wpAny_field hz rfl (x := .none) rfl (wpAny_pure (.inl ⟨rfl, rfl⟩)))
  · refine wpAny_bind (wpAny_field hz rfl (x := rawInt a) rfl ?_)
    show wpAny _ _ (loadIfAlive (Int.toNat a) >>= _) _ _ _
    refine wpAny_bind (alive ?_)
    rw [Int.toNat_natCast]
    cases e : s.heap.get? a with
    | none => exact wpAny_pure (.inl ⟨rfl, rfl⟩)
    | some o =>
      show wpAny _ _ (field (.ref z) 1 >>= _) _ _ _
      refine wpAny_bind (wpAny_field hz rfl (x := .bool f1) rfl ?_)
      cases f1 with
      | true => exact wpAny_pure (.inr ⟨rfl, s.heap, rfl, hz, ⟨rfl, fun _ _ => rfl⟩⟩)
      | false =>
        show wpAny _ _ (setField (.ref z) 1 (.bool true) >>= _) _ _ _
        exact wpAny_bind (wpAny_setField_rec hz (by simp) fun h' hz' hs' => wpAny_pure (.inr ⟨rfl, h', rfl, hz', hs'⟩))
theorem cons_drop {α : Type} {x : α} {rest L : List α} {k : Nat} (e : x :: rest = L.drop k) : L[k]? = some x ∧ rest = L.drop (k + 1) := by
  constructor
  · have := List.getElem?_drop (xs := L) (i := k) (j := 0)
    rw [← e] at this
    simpa using this.symm
  · rw [← List.drop_drop, ← e]; rfl
theorem zipIdx_at {b n k : Nat} {x : Value × Nat} (h : ((itsOf b n).zipIdx)[k]? = some x) : x = (.ref (b + k), k) ∧ k < n := by
  rw [List.getElem?_zipIdx] at h
  cases e : (itsOf b n)[k]? with
  | none => rw [e] at h; simp at h
  | some v =>
    have hk : k < n := by have := (List.getElem?_eq_some_iff.mp e).1; rw [its_len] at this; exact this
    rw [its_at hk] at e
    cases e
    rw [its_at hk] at h
    simp at h
    exact ⟨h.symm, hk⟩
set_option maxHeartbeats 4000000 in
theorem next_item {b : Nat} {rows : List Addr} {f0 : Value} {f1 : Bool} {i : Nat} {col : List Value} {Q : Value → Shared → Prop} (st : St0 s.heap b rows f0 f1 (fun _ => i)) (hf : f0 = .none ∨ ∃ a : Nat, f0 = rawInt a) (hn : 0 < rows.length) (hn2 : rows.length ≤ 1000)
    (hr : ∀ row ∈ rows, row < b) (hc : col.length = rows.length) (hx : ∀ (k : Nat) (row : Addr), rows[k]? = some row → ∃ (items : Array Value) (x : Value), s.heap.IsTuple row items ∧ items[i]? = some x ∧ col[k]? = some x)
    (hQ : ∀ h' f0' f1', St0 h' b rows f0' f1' (fun _ => i + 1) → (f0' = .none ∨ ∃ a : Nat, f0' = rawInt a) → TAt h' s.heap.objs.size col → h'.objs.size = s.heap.objs.size + 1 → Off b rows.length s.heap h' → Q (.ref s.heap.objs.size) { s with heap := h' }) :
    wpAny (model prog w) A (Builtin.«zip.__next__» ⟨[.ref (b + rows.length + 2)], []⟩) (fun fin s' => ∃ v, fin = .done (.ret v) ∧ Q v s') E s := by
  show wpAny _ _ (field (.ref (b + rows.length + 2)) 2 >>= _) _ _ _
  refine wpAny_bind (wpAny_field st.zip rfl (x := .bool false) rfl ?_)
  show wpAny _ _ (field (.ref (b + rows.length + 2)) 3 >>= _) _ _ _
  refine wpAny_bind (wpAny_field st.zip rfl (x := .ref (b + rows.length)) rfl ?_)
  refine wpAny_bind (wpAny_seqItems st.ti rfl ?_)
  have hem : (itsOf b rows.length).toArray.isEmpty = false := by
    have := its_len b rows.length
    cases e : itsOf b rows.length with
    | nil => rw [e] at this; simp at this; omega
    | cons _ _ => rfl
  dsimp only
  rw [if_neg (by rw [hem]; exact Bool.false_ne_true)]
  refine wpAny_bind (wpAny_mono (own_free st.zip hf) (fun r s1 h1 => ?_) (fun _ _ x => x))
  have hlt : b + rows.length + 2 < s.heap.objs.size := Heap.lt_size st.zip
  rcases h1 with ⟨rfl, rfl⟩ | ⟨rfl, h1, rfl, hz1, hs1⟩
  · -- the tuple that it keeps is free
    rw [if_pos rfl]
    refine wpAny_bind (wpAny_rule ?_)
    refine wpAny_bind (wpAny_field st.zip rfl (x := .ref (b + rows.length + 1)) rfl ?_)
    refine wpAny_bind (wpAny_setField_rec st.zip (by simp) fun h2 hz2 hs2 => ?_)
    replace hz2 : ZAt h2 (b + rows.length + 2) (b + rows.length) (b + rows.length + 1) .ellipsis f1 := hz2
    refine wpAny_bind (wpAny_mono (wpAny_forIn_list _ (fun rest bb s' => ∃ k, rest = ((itsOf b rows.length).zipIdx).drop k ∧ bb = (none, ()) ∧ Half s1 b rows i col .ellipsis f1 k s')
      (fun bb s' => bb = (none, ()) ∧ Half s1 b rows i col .ellipsis f1 rows.length s') ?turn ?fin _ _ ?start) ?after (fun _ _ x => x))
    case start =>
      obtain ⟨kept, hk1, hk2⟩ := st.to
      refine ⟨0, rfl, rfl, ⟨h2, rfl, hs2.1, Off.but hs2 (by omega), hz2, ?_, ⟨kept, hk1, ?_, by simp⟩, fun j row hj => ?_⟩⟩
      · show h2.get? _ = _
        rw [hs2.2 _ (ne_nat (by omega))]; exact st.ti
      · show h2.get? _ = _
        rw [hs2.2 _ (ne_nat (by omega))]; exact hk2
      · have hj' := (List.getElem?_eq_some_iff.mp hj).1
        obtain ⟨o, ho, r⟩ := st.it j row hj
        exact ⟨o, by rw [hs2.2 _ (ne_nat (by omega))]; exact ho, by simpa using r⟩
    case fin =>
      rintro bb s' ⟨k, e, rfl, hh⟩
      refine ⟨rfl, ?_⟩
      have hk : rows.length ≤ k := by
        have := congrArg List.length e
        rw [List.length_drop, List.length_zipIdx, its_len] at this
        simp at this
        omega
      obtain ⟨h', e1, e2, e3, e4, e5, ⟨kept, e6, e7, e8⟩, e9⟩ := hh.ex
      refine ⟨h', e1, e2, e3, e4, e5, ⟨kept, e6, e7, ?_⟩, fun j row hj => ?_⟩
      · rw [List.take_of_length_le (by omega), List.take_of_length_le (by omega)] at e8 ⊢
        exact e8
      · have := e9 j row hj
        have hj' := (List.getElem?_eq_some_iff.mp hj).1
        rw [if_pos (show j < k by omega)] at this
        rw [if_pos hj']; exact this
    case turn =>
      rintro x rest bb s' ⟨k, e, rfl, hh⟩
      obtain ⟨e1, e2⟩ := cons_drop e
      obtain ⟨rfl, hk⟩ := zipIdx_at e1
      obtain ⟨h', rfl, hsz, hoff, hz', hti', ⟨kept, hk1, hk2, hk3⟩, hits⟩ := hh.ex
      obtain ⟨row, hrow⟩ : ∃ row, rows[k]? = some row := ⟨rows[k], List.getElem?_eq_getElem hk⟩
      obtain ⟨items, v, hI, hv, hcv⟩ := hx k row hrow
      have hit := hits k row hrow
      rw [if_neg (Nat.lt_irrefl _)] at hit
      dsimp only
      refine wpAny_bind (wpAny_onRaise ?_)
      show wpAny _ _ (Builtin.SmallTypes.nextOf (.ref (b + k)) >>= _) _ _ _
      refine wpAny_bind (nextOf_item (s := { s1 with heap := h' }) hit (tuple_off hoff (hr row (List.mem_of_getElem? hrow)) hI) hv fun h3 hit3 hs3 => wpAny_pure ?_)
      dsimp only
      have hto3 : TAt h3 (b + rows.length + 1) kept := by
        show h3.get? _ = _
        rw [hs3.2 _ (ne_nat (by omega))]; exact hk2
      refine wpAny_bind (wpAny_seqItems (s := { s1 with heap := h3 }) hto3 rfl ?_)
      dsimp only
      refine wpAny_bind (wpAny_updateSeq (s := { s1 with heap := h3 }) hto3 rfl ?_ (by rw [List.size_toArray]; have := Pv.rLenQ; exact Nat.le_trans (by omega) (show 1000 ≤ sizeLine by decide)) (by simp only [Array.size_setIfInBounds, List.size_toArray]; exact Nat.le_trans (by omega) (show 1000 ≤ sizeLine + 1 by decide)))
      refine wpAny_bind (wpAny_letGo (wpAny_pure ?_))
      have hs4 : Heap.SameBut (b + rows.length + 1) h3 (h3.update (b + rows.length + 1) (Obj.mapSeq fun x => x.setIfInBounds k v)) := Heap.SameBut.update ..
      generalize hh4 : h3.update (b + rows.length + 1) (Obj.mapSeq fun x => x.setIfInBounds k v) = h4 at hs4
      have hto4 : TAt h4 (b + rows.length + 1) (kept.set k v) := by
        show h4.get? _ = _
        rw [← hh4, Heap.get?_update_self _ hto3 rfl]
        simp [Obj.mapSeq]
      refine ⟨k + 1, e2, rfl, ⟨h4, rfl, ?_, ?_, ?_, ?_, ⟨kept.set k v, ?_, hto4, ?_⟩, fun j row' hj => ?_⟩⟩
      · rw [hs4.1, hs3.1]; exact hsz
      · exact hoff.trans ((Off.but hs3 (by omega)).trans (Off.but hs4 (by omega)))
      · show h4.get? _ = _
        rw [hs4.2 _ (ne_nat (by omega)), hs3.2 _ (ne_nat (by omega))]; exact hz'
      · show h4.get? _ = _
        rw [hs4.2 _ (ne_nat (by omega)), hs3.2 _ (ne_nat (by omega))]; exact hti'
      · rw [List.length_set]; exact hk1
      · rw [List.take_add_one, List.take_add_one, hcv, List.getElem?_set_self (by omega), ← hk3, List.take_set_of_le (Nat.le_refl _)]
      · have hj' := (List.getElem?_eq_some_iff.mp hj).1
        by_cases hjk : j = k
        · subst hjk
          rw [hrow] at hj
          cases hj
          rw [if_pos (Nat.lt_succ_self _)]
          obtain ⟨o, ho, r⟩ := hit3
          exact ⟨o, by rw [hs4.2 _ (ne_nat (by omega))]; exact ho, r⟩
        · obtain ⟨o, ho, r⟩ := hits j row' hj
          refine ⟨o, by rw [hs4.2 _ (ne_nat (by omega)), hs3.2 _ (fun z => hjk (Nat.add_left_cancel z))]; exact ho, ?_⟩
          by_cases hlt' : j < k
          · rw [if_pos hlt'] at r; rw [if_pos (show j < k + 1 by omega)]; exact r
          · rw [if_neg hlt'] at r; rw [if_neg (show ¬ j < k + 1 by omega)]; exact r
    case after =>
      rintro bb s' ⟨rfl, hh⟩
      obtain ⟨h', rfl, hsz, hoff, hz', hti', ⟨kept, hk1, hk2, hk3⟩, hits⟩ := hh.ex
      rw [List.take_of_length_le (by omega), List.take_of_length_le (by omega)] at hk3
      subst hk3
      dsimp only
      refine wpAny_bind (wpAny_seqItems (s := { s1 with heap := h' }) hk2 rfl ?_)
      dsimp only
      refine wpAny_bind (wpAny_newTuple (s := { s1 with heap := h' }) ?_ (by show kept.toArray.toList.length ≤ sizeLine; rw [List.toList_toArray]; exact Nat.le_trans (show kept.length ≤ 1000 by omega) (by decide)))
      dsimp only
      rw [hsz]
      refine wpAny_bind ?_
      unfold Builtin.SmallTypes.ownedTupleHandOut
      have hz6 : ZAt (h'.push { cls := .type "tuple", data := .seq kept.toArray.toList.toArray }) (b + rows.length + 2) (b + rows.length) (b + rows.length + 1) .ellipsis f1 := Heap.get?_push_of_some _ hz'
      refine wpAny_bind (wpAny_setField_rec (s := { s1 with heap := h'.push { cls := .type "tuple", data := .seq kept.toArray.toList.toArray } }) hz6 (by simp) fun h7 hz7 hs7 => ?_)
      replace hz7 : ZAt h7 (b + rows.length + 2) (b + rows.length) (b + rows.length + 1) (rawInt s1.heap.objs.size) f1 := hz7
      refine wpAny_setField_rec (s := { s1 with heap := h7 }) hz7 (by simp) fun h8 hz8 hs8 => ?_
      replace hz8 : ZAt h8 (b + rows.length + 2) (b + rows.length) (b + rows.length + 1) (rawInt s1.heap.objs.size) false := hz8
      have up : ∀ c o, c ≠ b + rows.length + 2 → h'.get? c = some o → h8.get? c = some o := fun c o c1 e => by
        rw [hs8.2 _ c1, hs7.2 _ c1]; exact Heap.get?_push_of_some _ e
      refine wpAny_pure ⟨_, rfl, hQ h8 _ false ⟨hz8, up _ _ (ne_nat (by omega)) hti', ⟨kept, hk1, up _ _ (ne_nat (by omega)) hk2⟩, fun k row hk => ?_⟩ (.inr ⟨_, rfl⟩) ?_ ?_ ?_⟩
      · have hk' := (List.getElem?_eq_some_iff.mp hk).1
        have := hits k row hk
        rw [if_pos hk'] at this
        obtain ⟨o, ho, r⟩ := this
        exact ⟨o, up _ _ (ne_nat (by omega)) ho, r⟩
      · show h8.get? _ = _
        rw [hs8.2 _ (ne_nat (by omega)), hs7.2 _ (ne_nat (by omega)), ← hsz]
        exact Heap.get?_push_size _ rfl
      · rw [hs8.1, hs7.1, Heap.size_push, hsz]
      · intro c o r e
        exact up c o (ne_nat (by omega)) (hoff c o r e)
  · -- it is not
    rw [if_neg Bool.false_ne_true]
    have hti1 : TAt h1 (b + rows.length) (itsOf b rows.length) := by
      show h1.get? _ = _
      rw [hs1.2 _ (ne_nat (by omega))]; exact st.ti
    try dsimp only
    refine wpAny_bind (wpAny_mono (MeetsSeq2.wpAny_forIn_array _ (fun rest bb s' => ∃ k, rest = (itsOf b rows.length).drop k ∧ bb = (none, (col.take k).toArray) ∧ ∃ h', s' = { s with heap := h' } ∧ h'.objs.size = s.heap.objs.size ∧ Off b rows.length s.heap h' ∧
        ZAt h' (b + rows.length + 2) (b + rows.length) (b + rows.length + 1) f0 true ∧ TAt h' (b + rows.length) (itsOf b rows.length) ∧ (∃ kept : List Value, kept.length = rows.length ∧ TAt h' (b + rows.length + 1) kept) ∧ ∀ (j : Nat) (row : Addr), rows[j]? = some row → h'.IsTupleIter (b + j) row (if j < k then i + 1 else i))
      (fun bb s' => bb = (none, col.toArray) ∧ ∃ h', s' = { s with heap := h' } ∧ h'.objs.size = s.heap.objs.size ∧ Off b rows.length s.heap h' ∧ St0 h' b rows f0 true (fun _ => i + 1)) ?turn ?fin _ _ ?start) ?after (fun _ _ x => x))
    case start =>
      obtain ⟨kept, hk1, hk2⟩ := st.to
      refine ⟨0, by simp, by simp, h1, rfl, hs1.1, Off.but hs1 (by omega), hz1, hti1, ⟨kept, hk1, ?_⟩, fun j row hj => ?_⟩
      · show h1.get? _ = _
        rw [hs1.2 _ (ne_nat (by omega))]; exact hk2
      · have hj' := (List.getElem?_eq_some_iff.mp hj).1
        obtain ⟨o, ho, r⟩ := st.it j row hj
        exact ⟨o, by rw [hs1.2 _ (ne_nat (by omega))]; exact ho, by simpa using r⟩
    case fin =>
      rintro bb s' ⟨k, e, rfl, h', rfl, e2, e3, e4, e5, e6, e7⟩
      have hk : rows.length ≤ k := by
        have := congrArg List.length e
        rw [List.length_drop, its_len] at this
        simp at this
        omega
      refine ⟨by rw [List.take_of_length_le (by omega)], h', rfl, e2, e3, e4, e5, e6, fun j row hj => ?_⟩
      have := e7 j row hj
      have hj' := (List.getElem?_eq_some_iff.mp hj).1
      rw [if_pos (show j < k by omega)] at this
      exact this
    case turn =>
      rintro x rest bb s' ⟨k, e, rfl, h', rfl, hsz, hoff, hz', hti', hto', hits⟩
      obtain ⟨e1, e2⟩ := cons_drop e
      have hk : k < rows.length := by have := (List.getElem?_eq_some_iff.mp e1).1; rw [its_len] at this; exact this
      rw [its_at hk] at e1
      cases e1
      obtain ⟨row, hrow⟩ : ∃ row, rows[k]? = some row := ⟨rows[k], List.getElem?_eq_getElem hk⟩
      obtain ⟨items, v, hI, hv, hcv⟩ := hx k row hrow
      have hit := hits k row hrow
      rw [if_neg (Nat.lt_irrefl _)] at hit
      dsimp only
      refine wpAny_bind (wpAny_holding ?_)
      show wpAny _ _ (Builtin.SmallTypes.nextOf (.ref (b + k)) >>= _) _ _ _
      refine wpAny_bind (nextOf_item (s := { s with heap := h' }) hit (tuple_off hoff (hr row (List.mem_of_getElem? hrow)) hI) hv fun h3 hit3 hs3 => wpAny_pure ?_)
      dsimp only
      refine wpAny_pure ⟨k + 1, e2, ?_, h3, rfl, ?_, ?_, ?_, ?_, ?_, fun j row' hj => ?_⟩
      · rw [List.take_add_one, hcv]; simp
      · rw [hs3.1]; exact hsz
      · exact hoff.trans (Off.but hs3 (by omega))
      · show h3.get? _ = _
        rw [hs3.2 _ (ne_nat (by omega))]; exact hz'
      · show h3.get? _ = _
        rw [hs3.2 _ (ne_nat (by omega))]; exact hti'
      · obtain ⟨kept, hk1, hk2⟩ := hto'
        exact ⟨kept, hk1, by show h3.get? _ = _; rw [hs3.2 _ (ne_nat (by omega))]; exact hk2⟩
      · have hj' := (List.getElem?_eq_some_iff.mp hj).1
        by_cases hjk : j = k
        · subst hjk
          rw [hrow] at hj
          cases hj
          rw [if_pos (Nat.lt_succ_self _)]
          exact hit3
        · obtain ⟨o, ho, r⟩ := hits j row' hj
          refine ⟨o, by rw [hs3.2 _ (fun z => hjk (Nat.add_left_cancel z))]; exact ho, ?_⟩
          by_cases hlt' : j < k
          · rw [if_pos hlt'] at r; rw [if_pos (show j < k + 1 by omega)]; exact r
          · rw [if_neg hlt'] at r; rw [if_neg (show ¬ j < k + 1 by omega)]; exact r
    case after =>
      rintro bb s' ⟨rfl, h', rfl, hsz, hoff, st'⟩
      dsimp only
      refine wpAny_bind (wpAny_newTuple (s := { s with heap := h' }) ?_ (by show col.toArray.toList.length ≤ sizeLine; rw [List.toList_toArray]; exact Nat.le_trans (show col.length ≤ 1000 by omega) (by decide)))
      dsimp only
      rw [hsz]
      have up : ∀ c o, h'.get? c = some o → (h'.push { cls := .type "tuple", data := .seq col.toArray.toList.toArray }).get? c = some o := fun c o e => Heap.get?_push_of_some _ e
      refine wpAny_pure ⟨_, rfl, hQ _ _ true ⟨up _ _ st'.zip, up _ _ st'.ti, ?_, fun k row hk => ?_⟩ hf ?_ ?_ ?_⟩
      · obtain ⟨kept, hk1, hk2⟩ := st'.to
        exact ⟨kept, hk1, up _ _ hk2⟩
      · obtain ⟨o, ho, r⟩ := st'.it k row hk
        exact ⟨o, up _ _ ho, r⟩
      · rw [← hsz]; exact Heap.get?_push_size _ rfl
      · rw [Heap.size_push, hsz]
      · intro c o r e
        exact up _ _ (hoff c o r e)
end
end ZS

namespace ZS
open PySem
section
variable {prog : Program} {w : World} {A : Around} {E : Value → Shared → Prop} {s : Shared}
theorem its_cons {b n : Nat} (h : 0 < n) : ∃ rest, itsOf b n = .ref (b + 0) :: rest := by
  cases e : itsOf b n with
  | nil => have := its_len b n; rw [e] at this; simp at this; omega
  | cons x rest =>
    have := its_at (b := b) h
    rw [e] at this
    simp at this
    exact ⟨rest, by rw [this]; rfl⟩
set_option maxHeartbeats 4000000 in
theorem next_end {b : Nat} {rows : List Addr} {f0 : Value} {f1 : Bool} {i : Nat} {row : Addr} {items : Array Value} {Q : Fin → Shared → Prop} (hh : A.handled = none) (st : St0 s.heap b rows f0 f1 (fun _ => i)) (hf : f0 = .none ∨ ∃ a : Nat, f0 = rawInt a)
    (hr0 : rows[0]? = some row) (hrb : row < b) (hI : s.heap.IsTuple row items) (hx : items[i]? = none)
    (hE : ∀ h' e, Off b rows.length s.heap h' → (∃ o, h'.get? e = some o ∧ o.cls = .type "StopIteration") → E (.ref e) { s with heap := h' }) :
    wpAny (model prog w) A (Builtin.«zip.__next__» ⟨[.ref (b + rows.length + 2)], []⟩) Q E s := by
  have hn : 0 < rows.length := (List.getElem?_eq_some_iff.mp hr0).1
  obtain ⟨rest, hits⟩ := its_cons (b := b) hn
  show wpAny _ _ (field (.ref (b + rows.length + 2)) 2 >>= _) _ _ _
  refine wpAny_bind (wpAny_field st.zip rfl (x := .bool false) rfl ?_)
  show wpAny _ _ (field (.ref (b + rows.length + 2)) 3 >>= _) _ _ _
  refine wpAny_bind (wpAny_field st.zip rfl (x := .ref (b + rows.length)) rfl ?_)
  refine wpAny_bind (wpAny_seqItems st.ti rfl ?_)
  have hem : (itsOf b rows.length).toArray.isEmpty = false := by rw [hits]; rfl
  dsimp only
  rw [if_neg (by rw [hem]; exact Bool.false_ne_true)]
  refine wpAny_bind (wpAny_mono (own_free st.zip hf) (fun r s1 h1 => ?_) (fun _ _ x => x))
  have hlt : b + rows.length + 2 < s.heap.objs.size := Heap.lt_size st.zip
  have hit := st.it 0 row hr0
  rcases h1 with ⟨rfl, rfl⟩ | ⟨rfl, h1, rfl, hz1, hs1⟩
  · rw [if_pos rfl]
    refine wpAny_bind (wpAny_rule ?_)
    refine wpAny_bind (wpAny_field st.zip rfl (x := .ref (b + rows.length + 1)) rfl ?_)
    refine wpAny_bind (wpAny_setField_rec st.zip (by simp) fun h2 hz2 hs2 => ?_)
    replace hz2 : ZAt h2 (b + rows.length + 2) (b + rows.length) (b + rows.length + 1) .ellipsis f1 := hz2
    have o2 : Off b rows.length s1.heap h2 := Off.but hs2 (by omega)
    have hit2 : h2.IsTupleIter (b + 0) row i := by
      obtain ⟨o, ho, r⟩ := hit
      exact ⟨o, by rw [hs2.2 _ (ne_nat (by omega))]; exact ho, r⟩
    refine wpAny_bind ?_
    have hz0 : (itsOf b rows.length).toArray.toList.zipIdx = (.ref (b + 0), 0) :: rest.zipIdx 1 := by rw [hits]; rfl
    rw [hz0, List.forIn_cons]
    refine wpAny_bind (wpAny_bind (wpAny_onRaise ?_))
    show wpAny _ _ (Builtin.SmallTypes.nextOf (.ref (b + 0)) >>= _) _ _ _
    refine wpAny_bind (RZ.nextOf_tuple_end (s := { s1 with heap := h2 }) hh hit2 (tuple_off o2 hrb hI) hx fun h3 e hs3 he => ?_)
    obtain ⟨oe, hoe, hce⟩ := he
    have hz3 : ZAt h3 (b + rows.length + 2) (b + rows.length) (b + rows.length + 1) .ellipsis f1 := hs3 _ _ (ne_nat (by omega)) hz2
    have hez : e ≠ b + rows.length + 2 := fun x => by subst x; rw [hz3] at hoe; cases hoe; simp at hce
    refine wpAny_setField_rec (s := { s1 with heap := h3 }) hz3 (by simp) fun h4 _ hs4 => hE h4 e (fun c o r x => ?_) ⟨oe, by rw [hs4.2 _ hez]; exact hoe, hce⟩
    rw [hs4.2 _ (ne_nat (by omega))]
    exact hs3 _ _ (ne_nat (by omega)) (o2 c o r x)
  · rw [if_neg Bool.false_ne_true]
    have o1 : Off b rows.length s.heap h1 := Off.but hs1 (by omega)
    have hit1 : h1.IsTupleIter (b + 0) row i := by
      obtain ⟨o, ho, r⟩ := hit
      exact ⟨o, by rw [hs1.2 _ (ne_nat (by omega))]; exact ho, r⟩
    try dsimp only
    refine wpAny_bind ?_
    rw [← Array.forIn_toList, List.toList_toArray, hits, List.forIn_cons]
    refine wpAny_bind (wpAny_bind (wpAny_holding ?_))
    show wpAny _ _ (Builtin.SmallTypes.nextOf (.ref (b + 0)) >>= _) _ _ _
    refine wpAny_bind (RZ.nextOf_tuple_end (s := { s with heap := h1 }) hh hit1 (tuple_off o1 hrb hI) hx fun h3 e hs3 he => hE h3 e (fun c o r x => ?_) he)
    exact hs3 _ _ (ne_nat (by omega)) (o1 c o r x)
theorem pyNext_item {b : Nat} {rows : List Addr} {f0 : Value} {f1 : Bool} {i : Nat} {col : List Value} {Q : Option Value → Shared → Prop} (st : St0 s.heap b rows f0 f1 (fun _ => i)) (hf : f0 = .none ∨ ∃ a : Nat, f0 = rawInt a) (hn : 0 < rows.length) (hn2 : rows.length ≤ 1000)
    (hr : ∀ row ∈ rows, row < b) (hc : col.length = rows.length) (hx : ∀ (k : Nat) (row : Addr), rows[k]? = some row → ∃ (items : Array Value) (x : Value), s.heap.IsTuple row items ∧ items[i]? = some x ∧ col[k]? = some x)
    (hQ : ∀ h' f0' f1', St0 h' b rows f0' f1' (fun _ => i + 1) → (f0' = .none ∨ ∃ a : Nat, f0' = rawInt a) → TAt h' s.heap.objs.size col → h'.objs.size = s.heap.objs.size + 1 → Off b rows.length s.heap h' → Q (some (.ref s.heap.objs.size)) { s with heap := h' }) :
    wpAny (model prog w) A (pyNext (.ref (b + rows.length + 2))) Q E s := by
  have hT : s.TypeIs (.ref (b + rows.length + 2)) "zip" := ⟨_, st.zip, rfl⟩
  unfold pyNext
  exact wpAny_bind (wpAny_attempt (wpAny_callSpecial?_slot (name := Str.ofString "__next__") hT F.slot_zip_next
    (wpAny_call_entry F.slot_zip_next hT F.entry_zip_next
      (next_item st hf hn hn2 hr hc hx fun h' a b' a1 a2 a3 a4 a5 => wpAny_pure (hQ h' a b' a1 a2 a3 a4 a5)) (F.args_zip_next_1 _))))
theorem pyNext_end {b : Nat} {rows : List Addr} {f0 : Value} {f1 : Bool} {i : Nat} {row : Addr} {items : Array Value} {Q : Option Value → Shared → Prop} (hh : A.handled = none) (st : St0 s.heap b rows f0 f1 (fun _ => i)) (hf : f0 = .none ∨ ∃ a : Nat, f0 = rawInt a)
    (hr0 : rows[0]? = some row) (hrb : row < b) (hI : s.heap.IsTuple row items) (hx : items[i]? = none) (hQ : ∀ h', Off b rows.length s.heap h' → Q none { s with heap := h' }) :
    wpAny (model prog w) A (pyNext (.ref (b + rows.length + 2))) Q E s := by
  have hT : s.TypeIs (.ref (b + rows.length + 2)) "zip" := ⟨_, st.zip, rfl⟩
  unfold pyNext
  refine wpAny_bind (wpAny_attempt (wpAny_callSpecial?_slot (name := Str.ofString "__next__") hT F.slot_zip_next
    (wpAny_call_entry F.slot_zip_next hT F.entry_zip_next (next_end hh st hf hr0 hrb hI hx fun h' e hk he => ?_) (F.args_zip_next_1 _))))
  obtain ⟨o, ho, hc⟩ := he
  refine wpAny_bind (wpAny_isInstance (T := "StopIteration") (b := true) ⟨o, ho, hc⟩ isSubtype_stop ?_)
  exact wpAny_pure (hQ _ hk)
theorem pyIter_zip {z TI TO : Addr} {f0 : Value} {f1 : Bool} {Q : Value → Shared → Prop} (hz : ZAt s.heap z TI TO f0 f1) (h : Q (.ref z) s) : wpAny (model prog w) A (pyIter (.ref z)) Q E s := by
  have hT : s.TypeIs (.ref z) "zip" := ⟨_, hz, rfl⟩
  refine wpAny_pyIter_slot hT F.slot_zip_iter (wpAny_call_entry F.slot_zip_iter hT F.entry_zip_iter ?_ (F.args_zip_iter_1 _))
  show wpAny _ _ (ret (.ref z)) _ _ s
  exact wpAny_pure ⟨_, rfl, "zip", _, hT, F.slot_zip_next.lookup, h⟩
/-! making it -/
theorem typeCall (as : List Value) (h : as.length ≤ 7) : checkTypeCall "zip" ⟨as, []⟩ = pure () := by
  match as, h with
  | [], _ => kernel_rfl
  | [a], _ => kernel_rfl
  | [a, b], _ => kernel_rfl
  | [a, b, c], _ => kernel_rfl
  | [a, b, c, d], _ => kernel_rfl
  | [a, b, c, d, e], _ => kernel_rfl
  | [a, b, c, d, e, f], _ => kernel_rfl
  | [a, b, c, d, e, f, g], _ => kernel_rfl
  | _ :: _ :: _ :: _ :: _ :: _ :: _ :: _ :: _, h => simp at h
theorem newCall (as : List Value) (h : as.length ≤ 7) : checkBuiltinCall "zip.__new__" ⟨.type "zip" :: as, []⟩ = pure () := by
  match as, h with
  | [], _ => kernel_rfl
  | [a], _ => kernel_rfl
  | [a, b], _ => kernel_rfl
  | [a, b, c], _ => kernel_rfl
  | [a, b, c, d], _ => kernel_rfl
  | [a, b, c, d, e], _ => kernel_rfl
  | [a, b, c, d, e, f], _ => kernel_rfl
  | [a, b, c, d, e, f, g], _ => kernel_rfl
  | _ :: _ :: _ :: _ :: _ :: _ :: _ :: _ :: _, h => simp at h
theorem initArgs (o : Value) (as : List Value) (h : as.length ≤ 7) : argsOk "object.__init__" ⟨o :: as, []⟩ := by
  unfold argsOk
  rw [signature?_of (id := "object.__init__") (n := ['_', '_', 't', 'i', 'n', 'i', '_', '_']) (o := ['t', 'c', 'e', 'j', 'b', 'o']) (by kernel_rfl) F.owner_object]
  match as, h with
  | [], _ => kernel_rfl
  | [a], _ => kernel_rfl
  | [a, b], _ => kernel_rfl
  | [a, b, c], _ => kernel_rfl
  | [a, b, c, d], _ => kernel_rfl
  | [a, b, c, d, e], _ => kernel_rfl
  | [a, b, c, d, e, f], _ => kernel_rfl
  | [a, b, c, d, e, f, g], _ => kernel_rfl
  | _ :: _ :: _ :: _ :: _ :: _ :: _ :: _ :: _, h => simp at h
end
end ZS

namespace ZS
open PySem
def pushIts : Heap → List Addr → Heap
  | h, [] => h
  | h, l :: ls => pushIts (h.push { cls := .type "tuple_iterator", data := .fields #[.ref l, .int 0 0] }) ls
theorem push_size : ∀ (ls : List Addr) (h : Heap), (pushIts h ls).objs.size = h.objs.size + ls.length
  | [], h => rfl
  | l :: ls, h => by rw [pushIts, push_size ls, Heap.size_push, List.length_cons]; omega
theorem push_old : ∀ (ls : List Addr) (h : Heap) {c : Addr} {o : Obj}, h.get? c = some o → (pushIts h ls).get? c = some o
  | [], h, _, _, e => e
  | l :: ls, h, c, o, e => push_old ls _ (Heap.get?_push_of_some _ e)
theorem push_it : ∀ (ls : List Addr) (h : Heap) (k : Nat) (row : Addr), ls[k]? = some row → (pushIts h ls).IsTupleIter (h.objs.size + k) row 0
  | [], h, k, row, e => by simp at e
  | l :: ls, h, 0, row, e => by
    simp at e
    subst e
    exact ⟨_, push_old ls _ (Heap.get?_push_size _ rfl), rfl, rfl⟩
  | l :: ls, h, k + 1, row, e => by
    have := push_it ls (h.push { cls := .type "tuple_iterator", data := .fields #[.ref l, .int 0 0] }) k row (by simpa using e)
    rw [Heap.size_push] at this
    rw [show h.objs.size + (k + 1) = h.objs.size + 1 + k by omega]
    exact this
theorem push_snoc : ∀ (ls : List Addr) (h : Heap) (l : Addr), pushIts h (ls ++ [l]) = (pushIts h ls).push { cls := .type "tuple_iterator", data := .fields #[.ref l, .int 0 0] }
  | [], h, l => rfl
  | x :: ls, h, l => by rw [List.cons_append, pushIts, push_snoc ls, pushIts]
def Made (h : Heap) (rows : List Addr) (h' : Heap) : Prop := St0 h' h.objs.size rows .none false (fun _ => 0) ∧ ∀ c o, h.get? c = some o → h'.get? c = some o
set_option maxHeartbeats 4000000 in
theorem meets_new (rows : List Addr) (hn : rows.length ≤ 7) :
    Meets (Builtin.«zip.__new__» ⟨.type "zip" :: rows.map Value.ref, []⟩) (fun _ R s => (∀ row ∈ rows, ∃ items, s.heap.IsTuple row items) ∧
      ∀ h', Made s.heap rows h' → R (.ok (.ret (.ref (s.heap.objs.size + rows.length + 2)))) { s with heap := h' }) :=
  .of_wp fun prog w A R s h => by
    obtain ⟨hp, g, d, tk, os⟩ := s
    obtain ⟨ht, h⟩ := h
    have hsub := sub_zip
    wp_walk
    show wpAny (model prog w) A.in1 (forIn (rows.map Value.ref) (#[] : Array Value) (fun x its => holding its.toList (pyIter x) >>= fun v => pure (ForInStep.yield (its.push v)))) _ _ _
    refine wpAny_mono (wpAny_forIn_list _ (fun rest b s' => ∃ k, k ≤ rows.length ∧ rest = (rows.map Value.ref).drop k ∧ b = (itsOf hp.objs.size k).toArray ∧ s' = ⟨pushIts hp (rows.take k), g, d, tk, os⟩)
      (fun b s' => b = (itsOf hp.objs.size rows.length).toArray ∧ s' = ⟨pushIts hp rows, g, d, tk, os⟩) ?turn ?fin _ _ ?start) ?after (fun _ _ x => x)
    case start => exact ⟨0, Nat.zero_le _, rfl, rfl, by rw [List.take_zero]; rfl⟩
    case fin =>
      rintro b s' ⟨k, hk, e, rfl, rfl⟩
      have hk2 : rows.length ≤ k := by
        have := congrArg List.length e
        rw [List.length_drop, List.length_map] at this
        simp at this
        omega
      obtain rfl : k = rows.length := by omega
      exact ⟨rfl, by rw [List.take_length]⟩
    case turn =>
      rintro x rest b s' ⟨k, hk, e, rfl, rfl⟩
      obtain ⟨e1, e2⟩ := cons_drop e
      rw [List.getElem?_map] at e1
      obtain ⟨row, hrow, rfl⟩ := Option.map_eq_some_iff.mp e1
      obtain ⟨items, hI⟩ := ht row (List.mem_of_getElem? hrow)
      have hk2 := (List.getElem?_eq_some_iff.mp hrow).1
      have hI2 : (pushIts hp (rows.take k)).IsTuple row items := by
        obtain ⟨o, ho, r⟩ := hI
        exact ⟨o, push_old _ _ ho, r⟩
      refine wpAny_bind (wpAny_holding (wpAny_pyIter_tuple (s := ⟨pushIts hp (rows.take k), g, d, tk, os⟩) hI2 (wpAny_pure ⟨k + 1, by omega, e2, ?_, ?_⟩)))
      · show (itsOf hp.objs.size k).toArray.push (.ref (pushIts hp (rows.take k)).objs.size) = _
        rw [push_size, List.length_take, Nat.min_eq_left (by omega)]
        unfold itsOf
        rw [List.range_succ, List.map_append]
        simp
      · rw [List.take_add_one, hrow, Option.toList_some, push_snoc]
    case after =>
      rintro b s' ⟨rfl, rfl⟩
      have hz : ∀ l : List Value, l.length ≤ 7 → l.length ≤ sizeLine := fun l h => Nat.le_trans h (by decide)
      refine wpAny_pure ?_
      refine wpAny_bind (wpAny_newTuple (s := ⟨pushIts hp rows, g, d, tk, os⟩) ?_ (hz _ (by rw [List.toList_toArray, its_len]; exact hn)))
      refine wpAny_bind (wpAny_newTuple (s := ⟨(pushIts hp rows).push _, g, d, tk, os⟩) ?_ (hz _ (by rw [List.length_map, List.toList_toArray, its_len]; exact hn)))
      refine wpAny_bind (m := Builtin.SmallTypes.newRecord _ _) ?_
      unfold Builtin.SmallTypes.newRecord
      refine wpAny_newObj_type (s := ⟨((pushIts hp rows).push _).push _, g, d, tk, os⟩) ?_ (by show 5 ≤ sizeLine + 2; decide)
      have e1 : (pushIts hp rows).objs.size = hp.objs.size + rows.length := push_size rows hp
      have up : ∀ c o, hp.get? c = some o → (((pushIts hp rows).push { cls := .type "tuple", data := .seq (itsOf hp.objs.size rows.length).toArray.toList.toArray }).push { cls := .type "tuple", data := .seq ((itsOf hp.objs.size rows.length).toArray.toList.map fun _ => Value.none).toArray }).get? c = some o :=
        fun c o e => Heap.get?_push_of_some _ (Heap.get?_push_of_some _ (push_old _ _ e))
      have upI : ∀ c o, (pushIts hp rows).get? c = some o → (((pushIts hp rows).push { cls := .type "tuple", data := .seq (itsOf hp.objs.size rows.length).toArray.toList.toArray }).push { cls := .type "tuple", data := .seq ((itsOf hp.objs.size rows.length).toArray.toList.map fun _ => Value.none).toArray }).get? c = some o :=
        fun c o e => Heap.get?_push_of_some _ (Heap.get?_push_of_some _ e)
      dsimp only [Builtin.SmallTypes.ownedTupleFields, List.cons_append, List.nil_append]
      rw [Heap.size_push, Heap.size_push, e1]
      refine wpAny_pure ⟨_, rfl, ?_⟩
      have e2 : hp.objs.size + rows.length + 1 + 1 = hp.objs.size + rows.length + 2 := rfl
      rw [e2]
      refine h _ ⟨⟨?_, ?_, ⟨(itsOf hp.objs.size rows.length).map fun _ => Value.none, by rw [List.length_map, its_len], ?_⟩, fun k row hk => ?_⟩, fun c o e => Heap.get?_push_of_some _ (up c o e)⟩
      · show Heap.get? _ _ = _
        have e3 : (((pushIts hp rows).push { cls := .type "tuple", data := .seq (itsOf hp.objs.size rows.length).toArray.toList.toArray }).push { cls := .type "tuple", data := .seq ((itsOf hp.objs.size rows.length).toArray.toList.map fun _ => Value.none).toArray }).objs.size = hp.objs.size + rows.length + 2 := by rw [Heap.size_push, Heap.size_push, e1]
        rw [← e3]
        exact Heap.get?_push_size _ rfl
      · show Heap.get? _ _ = _
        refine Heap.get?_push_of_some _ (Heap.get?_push_of_some _ ?_)
        rw [← e1]
        exact Heap.get?_push_size _ rfl
      · show Heap.get? _ _ = _
        refine Heap.get?_push_of_some _ ?_
        have e4 : ((pushIts hp rows).push { cls := .type "tuple", data := .seq (itsOf hp.objs.size rows.length).toArray.toList.toArray }).objs.size = hp.objs.size + rows.length + 1 := by rw [Heap.size_push, e1]
        rw [← e4]
        exact Heap.get?_push_size _ rfl
      · obtain ⟨o, ho, r⟩ := push_it rows hp k row hk
        exact ⟨o, Heap.get?_push_of_some _ (upI _ _ ho), r⟩
section
variable {prog : Program} {w : World} {A : Around} {E : Value → Shared → Prop} {s : Shared}
theorem call_zipN {rows : List Addr} {Q : Value → Shared → Prop} (hn : rows.length ≤ 7) (ht : ∀ row ∈ rows, ∃ items, s.heap.IsTuple row items)
    (h : ∀ h', Made s.heap rows h' → Q (.ref (s.heap.objs.size + rows.length + 2)) { s with heap := h' }) : wpAny (model prog w) A (call (.type "zip") (rows.map Value.ref)) Q E s := by
  refine callType_new F.called_zip (by decide) (typeCall _ (by rw [List.length_map]; exact hn)) (newCall _ (by rw [List.length_map]; exact hn)) (fun obj => initArgs obj _ (by rw [List.length_map]; exact hn)) F.entry_zip_new
    (meets_new rows hn) ⟨ht, fun h' m => ?_⟩
  exact ⟨⟨_, m.1.zip, rfl⟩, h h' m⟩
end
end ZS

namespace Pv
open PySem PySem.Spec PyProof.Rows L2
/-- the tuples at rows as they stand at each turn, their items at the turn's place in a new tuple -/
def ItS (K : PySem.W.Frag) (rows : List Addr) : It :=
  ⟨fun i H => ∀ row ∈ rows, ∃ xs x, SqT K H row xs ∧ xs[i]? = some x,
    fun i H v H' => ∃ (T : Addr) (col : List V), v = .ref T ∧ H T = none ∧ H' = upd H T (.tup col) ∧ col.length = rows.length ∧ ∀ (k : Nat) (row : Addr), rows[k]? = some row → ∀ xs, SqT K H row xs → col[k]? = xs[i]?,
    fun i H => ∃ row xs, rows[0]? = some row ∧ SqT K H row xs ∧ xs.length ≤ i⟩
def ownZ (b n : Nat) : List Addr := (List.range (n + 3)).map fun k => b + k
theorem ownZ_mem {b n c : Nat} : c ∈ ownZ b n ↔ b ≤ c ∧ c ≤ b + n + 2 := by
  unfold ownZ
  rw [List.mem_map]
  constructor
  · rintro ⟨k, hk, rfl⟩
    rw [List.mem_range] at hk
    omega
  · rintro ⟨h1, h2⟩
    exact ⟨c - b, by rw [List.mem_range]; omega, by omega⟩
theorem cols_of {X : Cx} {pins : List (Addr × Obj)} {σ : L2.St} {H : Hp} {s : Shared} {i : Nat} (I : Inv X pins σ H s) : ∀ {rows : List Addr}, (∀ row ∈ rows, ∃ xs x, SqT X.K H row xs ∧ xs[i]? = some x) →
    ∃ (cv : List V) (cu : List Value), Vals cv cu ∧ cv.length = rows.length ∧ cu.length = rows.length ∧ ∀ (k : Nat) (row : Addr), rows[k]? = some row →
      (∀ xs, SqT X.K H row xs → cv[k]? = xs[i]?) ∧ ∃ (items : Array Value) (u : Value), s.heap.IsTuple row items ∧ items[i]? = some u ∧ cu[k]? = some u
  | [], _ => ⟨[], [], .nil, rfl, rfl, fun k row h => by simp at h⟩
  | r :: rows, h => by
    obtain ⟨cv, cu, h1, h2, h3, h4⟩ := cols_of I (rows := rows) (fun row hr => h row (by simp [hr]))
    obtain ⟨xs, x, hT, hx⟩ := h r (by simp)
    obtain ⟨its, rv, p, _⟩ := I.tuple hT
    obtain ⟨u, hu, ru⟩ := rv.get hx
    refine ⟨x :: cv, u :: cu, .cons ru h1, by simp [h2], by simp [h3], fun k row hk => ?_⟩
    cases k with
    | zero =>
      simp at hk
      subst hk
      exact ⟨fun l hl => by rw [I.tuple_inj hl hT, hx]; rfl, its.toArray, u, p, by simpa using hu, rfl⟩
    | succ k =>
      have := h4 k row (by simpa using hk)
      simpa using this
theorem turn_zipS {P : Program} {w : World} {K : PySem.W.Frag} {y : Str} {py : Pos} {b : Nat} {rows : List Addr} (hn : 0 < rows.length) (hn2 : rows.length ≤ 7) (hb : ∀ row ∈ rows, row < b) :
    Turn P w K (.Name y py) (ItS K rows) (ownZ b rows.length) (b + rows.length + 2) (fun i h => ∃ f0 f1, ZS.St0 h b rows f0 f1 (fun _ => i) ∧ (f0 = .none ∨ ∃ a : Nat, f0 = rawInt a)) where
  mem := ownZ_mem.mpr (by omega)
  obj := fun i h st c hc => by
    obtain ⟨f0, f1, st, _⟩ := st
    obtain ⟨k, hk, rfl⟩ := List.mem_map.mp hc
    rw [List.mem_range] at hk
    by_cases h1 : k < rows.length
    · obtain ⟨o, ho, _, hd⟩ := st.it k rows[k] (List.getElem?_eq_getElem h1)
      exact ⟨o, ho, fun v q => by rw [hd] at q; cases q⟩
    · have h3 : ∀ k n : Nat, k < n + 3 → ¬ k < n → k = n ∨ k = n + 1 ∨ k = n + 2 := fun k n h1 h2 => by omega
      obtain rfl | rfl | rfl := h3 k rows.length hk h1
      · exact ⟨_, st.ti, fun v q => nomatch q⟩
      · obtain ⟨kept, _, e⟩ := st.to
        exact ⟨_, e, fun v q => nomatch q⟩
      · exact ⟨_, st.zip, fun v q => nomatch q⟩
  keep := fun i h h' st k => by
    obtain ⟨f0, f1, st, hf⟩ := st
    have k' : ∀ c, b ≤ c → c ≤ b + rows.length + 2 → ∀ o, h.get? c = some o → h'.get? c = some o := fun c h1 h2 o e => k c (ownZ_mem.mpr ⟨h1, h2⟩) o e
    refine ⟨f0, f1, ⟨k' _ (by omega) (by omega) _ st.zip, k' _ (by omega) (by omega) _ st.ti, ?_, fun j row hj => ?_⟩, hf⟩
    · obtain ⟨kept, h1, e⟩ := st.to
      exact ⟨kept, h1, k' _ (by omega) (by omega) _ e⟩
    · have hj' := (List.getElem?_eq_some_iff.mp hj).1
      obtain ⟨o, ho, r⟩ := st.it j row hj
      exact ⟨o, k' _ (by omega) (by omega) _ ho, r⟩
  item := by
    intro X hP hw hK hc i pins s σ H E I hf st hg
    subst hP hw hK
    obtain ⟨f0, f1, st, hfr⟩ := st
    obtain ⟨cv, cu, h1, h2, h3, h4⟩ := cols_of I hg
    have hlt : b + rows.length + 2 < s.heap.objs.size := Heap.lt_size st.zip
    refine ZS.pyNext_item st hfr hn (by omega) hb h3 (fun k row hk => (h4 k row hk).2) fun h' f0' f1' st' hf' hT hsz hoff => ?_
    refine ⟨_, rfl, ?_⟩
    unfold letOwnedTupleGo
    refine wpAny_pure ?_
    have new : ObjOk X.prog X.w (upd H s.heap.objs.size (.tup cv)) h' s.heap.objs.size (.tup cv) :=
      ⟨Nat.le_trans (show cv.length ≤ 7 by omega) (by decide), cu, h1, ⟨_, hT, rfl, _, rfl⟩⟩
    have I1 : Inv X pins σ (upd H s.heap.objs.size (.tup cv)) { s with heap := h' } :=
      I.turnedNew (t' := s.toks) (ch := ownZ b rows.length) (fun c o hb' q => hoff c o (by rw [ownZ_mem] at hb'; omega) q) hf (Nat.le_refl _) new
    refine ⟨.ref s.heap.objs.size, _, I1, rfl, ⟨_, cv, rfl, I.hok.fresh (Nat.le_refl _), rfl, h2, fun k row hk => (h4 k row hk).1⟩, ⟨f0', f1', st', hf'⟩, fun c hcm => ?_⟩
    have hcm2 := hcm
    obtain ⟨k, hk, rfl⟩ := List.mem_map.mp hcm2
    rw [List.mem_range] at hk
    rw [upd_ne (Nat.ne_of_lt (show b + k < s.heap.objs.size by omega))]
    exact (hf _ hcm).1
  done := by
    intro X hP hw hK hc i pins s σ H E I hf st hg
    subst hP hw hK
    obtain ⟨f0, f1, st, hfr⟩ := st
    obtain ⟨row, xs, hr0, hT, hl⟩ := hg
    obtain ⟨its, rv, p, _⟩ := I.tuple hT
    have l1 := rv.length
    exact ZS.pyNext_end (I.ok.hd hc) st hfr hr0 (hb row (List.mem_of_getElem? hr0)) p (by simp; omega) fun h' hoff => ⟨rfl, I.turnedL (t' := s.toks) (ch := ownZ b rows.length) (fun c o hb' q => hoff c o (by rw [ownZ_mem] at hb'; omega) q) hf⟩
  self := fun A i s Q E st h => by
    obtain ⟨f0, f1, st, _⟩ := st
    exact ZS.pyIter_zip st.zip h
def iZipS (K : PySem.W.Frag) (te : TE) : TI := fun σ H R => te σ H fun x H1 => ∃ (a : Addr) (rows : List Addr), x = .ref a ∧ SqT K H1 a (rows.map V.ref) ∧ 0 < rows.length ∧ rows.length ≤ 7 ∧ (∀ row ∈ rows, ∃ xs, SqT K H1 row xs) ∧ R (ItS K rows) H1
theorem vals_refs : ∀ {rows : List Addr} {us : List Value}, Vals (rows.map V.ref) us → us = rows.map Value.ref
  | [], _, h => by cases h; rfl
  | r :: rows, _, h => by
    cases h with
    | cons h1 h2 => cases h1; rw [vals_refs h2]; rfl
theorem pi_zipS {X : Cx} {e : Expr} {te : TE} {p pos sp_ py : Pos} {y : Str} (hg : Gl X "zip") (hm : X.mg "zip" = none) (he : PE X e te)
    (hst : starEach [.Starred e sp_] X.env = [(true, eval e X.env)] := by rfl) :
    PI X (.Name y py) (.Call (.Name "zip" p) [.Starred e sp_] [] pos) (iZipS X.K te) := by
  refine ⟨fun pins s σ H R I h => ?_⟩
  refine Call_ (ld_blt I hg hm PyProof.Rows.boot_zip ?_)
  rw [hst]
  refine PySem.W.ks_call (P := fun _ => True) rfl (fun h _ => ⟨.machine, .inr (.inl rfl), fun A Q E s _ q => wpAny_pure q⟩) (PySem.W.ks_lone (thn (he.run pins s σ H _ I h) fun v s1 ⟨x, H1, I1, rx, a, rows, ex, hT, hn, hn2, hrows, q⟩ => ?_))
  subst ex
  obtain rfl : v = Value.ref a := rx
  refine StX.star_any I1 (.inl hT) fun us s2 I2 rv => ⟨trivial, ?_⟩
  rw [vals_refs rv]
  have hlt : ∀ row ∈ rows, row < s2.heap.objs.size ∧ ∃ items, s2.heap.IsTuple row items := fun row hr => by
    obtain ⟨xs, hx⟩ := hrows row hr
    obtain ⟨its, _, p1, _⟩ := I2.tuple hx
    obtain ⟨o, ho, _⟩ := id p1
    exact ⟨Heap.lt_size ho, its.toArray, p1⟩
  refine ZS.call_zipN hn2 (fun row hr => (hlt row hr).2) fun h' m => ?_
  refine ZS.pyIter_zip (s := { s2 with heap := h' }) m.1.zip ?_
  have I3 : Inv X pins σ H1 { s2 with heap := h' } := I2.kept (t' := s2.toks) m.2
  refine ⟨s2.heap.objs.size + rows.length + 2, ownZ s2.heap.objs.size rows.length, _, _, H1, rfl, I3, turn_zipS hn hn2 (fun row hr => (hlt row hr).1), ⟨.none, false, m.1, .inl rfl⟩, fun c hcm => ?_, q⟩
  have hle := (ownZ_mem.mp hcm).1
  exact I2.fpOk hle (I2.hok.fresh hle)
theorem walk_zipS {K : PySem.W.Frag} {rows : List Addr} {xss : List (List V)} {n : Nat} (hn : 0 < rows.length) (hl : xss.length = rows.length) (hx : ∀ xs ∈ xss, xs.length = n) :
    Walk (ItS K rows) n (fun H => ∀ (k : Nat) (row : Addr) (xs : List V), rows[k]? = some row → xss[k]? = some xs → SqT K H row xs)
      (fun i H v H' => ∃ (T : Addr) (col : List V), v = .ref T ∧ H T = none ∧ H' = upd H T (.tup col) ∧ col.length = rows.length ∧ ∀ (k : Nat) (xs : List V), xss[k]? = some xs → col[k]? = xs[i]?) := by
  have hat : ∀ (k : Nat), k < rows.length → ∃ xs, xss[k]? = some xs ∧ xs ∈ xss := fun k hk => ⟨xss[k]'(by omega), List.getElem?_eq_getElem (by omega), List.getElem_mem _⟩
  constructor
  · rintro i H hi q row hr
    obtain ⟨k, hk, e⟩ := List.getElem_of_mem hr
    obtain ⟨xs, h1, h2⟩ := hat k hk
    have := hx xs h2
    exact ⟨xs, xs[i]'(by omega), q k row xs (by rw [List.getElem?_eq_getElem hk, e]) h1, List.getElem?_eq_getElem _⟩
  · rintro H q
    obtain ⟨xs, h1, h2⟩ := hat 0 hn
    have := hx xs h2
    exact ⟨rows[0], xs, List.getElem?_eq_getElem hn, q 0 _ xs (List.getElem?_eq_getElem hn) h1, by omega⟩
  · rintro i H v H' _ q ⟨T, col, h1, h2, h3, h4, h5⟩
    refine ⟨T, col, h1, h2, h3, h4, fun k xs hk => ?_⟩
    have hk' : k < rows.length := by have := (List.getElem?_eq_some_iff.mp hk).1; omega
    exact h5 k _ (List.getElem?_eq_getElem hk') xs (q k _ xs (List.getElem?_eq_getElem hk') hk)
end Pv

namespace Pv
open PySem PySem.Spec PyProof.Rows L2
theorem nolen_zip : typeLookup (.type "zip") "__len__" = pure none := by rw [typeLookup_type, builtinLookup_eq_fast]; kernel_rfl
theorem nohint_zip : typeLookup (.type "zip") "__length_hint__" = pure none := by rw [typeLookup_type, builtinLookup_eq_fast]; kernel_rfl
def colV (xss : List (List V)) (i : Nat) : List V := xss.map fun xs => xs.getD i .non
theorem colsL {X : Cx} {pins : List (Addr × Obj)} {σ : L2.St} {H : Hp} {s : Shared} {i : Nat} (I : Inv X pins σ H s) : ∀ {rows : List Addr} {xss : List (List V)}, xss.length = rows.length → (∀ (k : Nat) (row : Addr) (xs : List V), rows[k]? = some row → xss[k]? = some xs → SqL X.K H row xs ∧ i < xs.length) →
    ∃ cu : List Value, Vals (colV xss i) cu ∧ cu.length = rows.length ∧ ∀ (k : Nat) (row : Addr), rows[k]? = some row → ∃ (items : Array Value) (u : Value), s.heap.IsList row items ∧ items[i]? = some u ∧ cu[k]? = some u
  | [], [], _, _ => ⟨[], .nil, rfl, fun k row h => by simp at h⟩
  | [], _ :: _, hl, _ => by simp at hl
  | _ :: _, [], hl, _ => by simp at hl
  | r :: rows, xs :: xss, hl, h => by
    obtain ⟨cu, h1, h3, h4⟩ := colsL I (rows := rows) (xss := xss) (by simpa using hl) (fun k row ys hk hy => h (k + 1) row ys (by simpa using hk) (by simpa using hy))
    obtain ⟨hT, hi⟩ := h 0 r xs rfl rfl
    obtain ⟨its, rv, p, _⟩ := I.list hT
    obtain ⟨u, hu, ru⟩ := rv.get (List.getElem?_eq_getElem hi)
    refine ⟨u :: cu, .cons ?_ h1, by simp [h3], fun k row hk => ?_⟩
    · show RelV (xs.getD i V.non) u
      rw [List.getD_eq_getElem?_getD, List.getElem?_eq_getElem hi]; exact ru
    cases k with
    | zero =>
      simp at hk
      subst hk
      exact ⟨its.toArray, u, p.isList, by simpa using hu, rfl⟩
    | succ k =>
      have := h4 k row (by simpa using hk)
      simpa using this
section
variable {X : Cx} {pins : List (Addr × Obj)} {σ : L2.St}
structure ZSt (X : Cx) (pins : List (Addr × Obj)) (b : Nat) (rows : List Addr) (xss : List (List V)) (n : Nat) (H : Hp) (s : Shared) (i : Nat) (S : Addr) (ts : List Addr) (H0 : Hp) : Prop where
  st : ∃ f0 f1, ZL.St0 s.heap b rows f0 f1 (fun _ => i) ∧ (f0 = .none ∨ ∃ a : Nat, f0 = rawInt a)
  fp : ∀ c ∈ ownZ b rows.length, FpOk X pins H c
  hS : H S = some (.lst (ts.map V.ref))
  tl : ts.length = i
  ta : ∀ (j : Nat) (T : Addr), ts[j]? = some T → H T = some (.tup (colV xss j))
  sm : Same H0 H
theorem loopZ {A : Around} {R : Result → Shared → Prop} (hA : A.in1.handled = none) {b : Nat} {rows : List Addr} {xss : List (List V)} {n : Nat} (hn : 0 < rows.length) (hn2 : rows.length ≤ 1000) (hb : ∀ row ∈ rows, row < b) (hl : xss.length = rows.length) (hx : ∀ xs ∈ xss, xs.length = n) (hnz : n ≤ 1000) (S : Addr) (res : Value) (H0 : Hp)
    (fS : H0 S = none) (rw0 : ∀ (k : Nat) (row : Addr) (xs : List V), rows[k]? = some row → xss[k]? = some xs → SqL X.K H0 row xs)
    (hR : ∀ (s' : Shared) (H' : Hp) (ts' : List Addr), Inv X pins σ H' s' → H' S = some (.lst (ts'.map V.ref)) → ts'.length = n → (∀ (j : Nat) (T : Addr), ts'[j]? = some T → H' T = some (.tup (colV xss j))) → Same H0 H' → R (.ok (.ret res)) s') :
    ∀ (k i : Nat) (s : Shared) (H : Hp) (ts : List Addr), n - i = k → i ≤ n → Inv X pins σ H s → ZSt X pins b rows xss n H s i S ts H0 →
    codeAny (model X.prog X.w) A (.builtin "list.extend.loop" ⟨[.ref S, .ref (b + rows.length + 2), res], []⟩) R s := by
  have hlen : ∀ (k : Nat) (xs : List V), xss[k]? = some xs → xs.length = n := fun k xs h => hx xs (List.mem_of_getElem? h)
  intro k
  induction k with
  | zero =>
    intro i s H ts hk hi I Z
    have hin : i = n := by omega
    subst hin
    refine codeAny_builtin F.entry_extend_loop ?_
    rw [Around.under_plainId F.plain_extend_loop _]
    show wpAny _ A.in1 (pyNext (.ref (b + rows.length + 2)) >>= _) _ _ s
    obtain ⟨f0, f1, st, hfr⟩ := Z.st
    have hr0 : rows[0]? = some rows[0] := List.getElem?_eq_getElem hn
    have hx0 : xss[0]? = some xss[0] := List.getElem?_eq_getElem (by omega)
    obtain ⟨its, rv, p, _⟩ := I.list (Z.sm.seq (rw0 0 _ _ hr0 hx0))
    have l1 := rv.length
    have l2 := hlen 0 _ hx0
    refine wpAny_bind (ZL.pyNext_end hA st hfr hr0 (hb _ (List.getElem_mem hn)) p.isList (by simp; omega) fun h' hoff => ?_)
    exact wpAny_pure (hR _ H ts (I.turnedL (t' := s.toks) (ch := ownZ b rows.length) (fun c o hb' q => hoff c o (by rw [ownZ_mem] at hb'; omega) q) Z.fp) Z.hS Z.tl Z.ta Z.sm)
  | succ k ih =>
    intro i s H ts hk hi I Z
    have hlt : i < n := by omega
    refine codeAny_builtin F.entry_extend_loop ?_
    rw [Around.under_plainId F.plain_extend_loop _]
    show wpAny _ A.in1 (pyNext (.ref (b + rows.length + 2)) >>= _) _ _ s
    obtain ⟨f0, f1, st, hfr⟩ := Z.st
    obtain ⟨cu, c1, c2, c3⟩ := colsL (i := i) I hl (fun k row xs h1 h2 => ⟨Z.sm.seq (rw0 k row xs h1 h2), by rw [hlen k xs h2]; exact hlt⟩)
    have hzlt : b + rows.length + 2 < s.heap.objs.size := Heap.lt_size st.zip
    refine wpAny_bind (ZL.pyNext_item st hfr hn hn2 hb c2 c3 fun h' f0' f1' st' hf' hT hsz hoff => ?_)
    have hcl : (colV xss i).length = rows.length := by unfold colV; rw [List.length_map, hl]
    have new : ObjOk X.prog X.w (upd H s.heap.objs.size (.tup (colV xss i))) h' s.heap.objs.size (.tup (colV xss i)) :=
      ⟨Nat.le_trans (show (colV xss i).length ≤ 1000 by omega) (by decide), cu, c1, ⟨_, hT, rfl, _, rfl⟩⟩
    have I1 : Inv X pins σ (upd H s.heap.objs.size (.tup (colV xss i))) { s with heap := h' } :=
      I.turnedNew (t' := s.toks) (ch := ownZ b rows.length) (fun c o hb' q => hoff c o (by rw [ownZ_mem] at hb'; omega) q) Z.fp (Nat.le_refl _) new
    have nT : H s.heap.objs.size = none := I.hok.fresh (Nat.le_refl _)
    have sT := sameNew (o := .tup (colV xss i)) nT
    have hS1 := sT _ _ Z.hS
    obtain ⟨zz, its, nn, rr, ll, ee⟩ := I1.lstM hS1
    have hSz : S ≠ s.heap.objs.size := ne_of_none Z.hS nT
    show wpAny _ A.in1 (updateSeq S (·.push (.ref s.heap.objs.size)) >>= _) _ _ _
    refine wpAny_bind ?_
    have I2 : Inv X pins σ (upd (upd H s.heap.objs.size (.tup (colV xss i))) S (.lst ((ts ++ [s.heap.objs.size]).map V.ref))) { s with heap := h'.update S (Obj.mapSeq (·.push (.ref s.heap.objs.size))) } := by
      refine I1.lset (t' := s.toks) (its' := its ++ [.ref s.heap.objs.size]) (f := fun a => a.push (.ref s.heap.objs.size)) hS1 ee (by simp) ?_ ?_
      · rw [List.map_append]; exact rr.append (.cons rfl .nil)
      · rw [List.length_map, List.length_append, Z.tl]; exact Nat.le_trans (show i + 1 ≤ 1000 by omega) (by decide)
    have hSown : S ∉ ownZ b rows.length := fun hm => by have := (Z.fp S hm).1; rw [Z.hS] at this; cases this
    refine wpAny_updateSeq ee rfl (wpAny_pure ⟨plainId_quiet F.plain_extend_loop _, ih (i + 1) _ _ (ts ++ [s.heap.objs.size]) (by omega) hlt I2 ⟨⟨f0', f1', ?_, hf'⟩, fun c hc => ?_, upd_same, by simp [Z.tl], fun j T hj => ?_, samePut (Z.sm.trans sT) fS⟩⟩) ?_ ?_
    · have oth : ∀ c o, b ≤ c → c ≤ b + rows.length + 2 → h'.get? c = some o → (h'.update S (Obj.mapSeq (·.push (.ref s.heap.objs.size)))).get? c = some o := fun c o h1 h2 e => (Heap.get?_update_other _ _ (fun z => hSown (by rw [z]; exact ownZ_mem.mpr ⟨h1, h2⟩))).trans e
      refine ⟨oth _ _ (by omega) (by omega) st'.zip, oth _ _ (by omega) (by omega) st'.ti, ?_, fun k row hk => ?_⟩
      · obtain ⟨kept, h1, h2⟩ := st'.to
        exact ⟨kept, h1, oth _ _ (by omega) (by omega) h2⟩
      · have hk' := (List.getElem?_eq_some_iff.mp hk).1
        obtain ⟨o, ho, r⟩ := st'.it k row hk
        exact ⟨o, oth _ _ (by omega) (by omega) ho, r⟩
    · obtain ⟨q1, q2⟩ := Z.fp c hc
      refine ⟨?_, q2⟩
      have h1 : c ≠ S := fun z => hSown (z ▸ hc)
      have h2 : c ≠ s.heap.objs.size := by have := (ownZ_mem.mp hc).2; exact Nat.ne_of_lt (by omega)
      rw [upd_ne h1, upd_ne h2]; exact q1
    · by_cases hji : j < ts.length
      · rw [List.getElem?_append_left hji] at hj
        have e := Z.ta j T hj
        rw [upd_ne (ne_of e Z.hS (by intro z; cases z)), upd_ne (ne_of_none e nT)]
        exact e
      · have hjl := (List.getElem?_eq_some_iff.mp hj).1
        have e1 : j = ts.length := by simp at hjl; omega
        subst e1
        simp at hj
        subst hj
        rw [upd_ne hSz.symm, upd_same, Z.tl]
    · show its.toArray.size ≤ _
      rw [List.size_toArray, ← ll, List.length_map, Z.tl]
      exact Nat.le_trans (show i ≤ 1000 by omega) (by decide)
    · show (its.toArray.push _).size ≤ _
      rw [Array.size_push, List.size_toArray, ← ll, List.length_map, Z.tl]
      exact Nat.le_trans (show i + 1 ≤ 1001 by omega) (by decide)
theorem call_listZ {E : Value → Shared → Prop} {Q : Value → Shared → Prop} {s : Shared} {H : Hp} (I : Inv X pins σ H s) (hA : X.A.handled = none) {b : Nat} {rows : List Addr} {xss : List (List V)} {n : Nat} (hn : 0 < rows.length) (hn2 : rows.length ≤ 1000) (hb : ∀ row ∈ rows, row < b) (hl : xss.length = rows.length) (hx : ∀ xs ∈ xss, xs.length = n) (hnz : n ≤ 1000)
    (st : ZL.St0 s.heap b rows .none false (fun _ => 0)) (fp : ∀ c ∈ ownZ b rows.length, FpOk X pins H c) (rw0 : ∀ (k : Nat) (row : Addr) (xs : List V), rows[k]? = some row → xss[k]? = some xs → SqL X.K H row xs)
    (hR : ∀ (s' : Shared) (H' : Hp) (L : Addr) (ts' : List Addr), Inv X pins σ H' s' → H L = none → H' L = some (.lst (ts'.map V.ref)) → ts'.length = n → (∀ (j : Nat) (T : Addr), ts'[j]? = some T → H' T = some (.tup (colV xss j))) → Same H H' → Q (.ref L) s') :
    wpAny (model X.prog X.w) X.A (call (.type "list") [.ref (b + rows.length + 2)]) Q E s := by
  have hzlt : b + rows.length + 2 < s.heap.objs.size := Heap.lt_size st.zip
  have fS : H s.heap.objs.size = none := I.hok.fresh (Nat.le_refl _)
  refine callType_codes (Q₁ := fun obj s₁ => obj = .ref s.heap.objs.size ∧ s₁ = { s with heap := s.heap.push { cls := .type "list", data := .seq #[] } }) F.called_list (F.typeCall_list_1 _) F.entry_list_init
    (code_list_new _ ⟨rfl, rfl⟩) fun obj s₁ h₁ => ?_
  obtain ⟨rfl, rfl⟩ := h₁
  have hS : (s.heap.push { cls := .type "list", data := .seq #[] }).get? s.heap.objs.size = some { cls := .type "list", data := .seq #[] } := Heap.get?_push_size _ rfl
  have I0 : Inv X pins σ (upd H s.heap.objs.size (.lst [])) { s with heap := s.heap.push { cls := .type "list", data := .seq #[] } } :=
    I.laid (t' := s.toks) (fun _ _ q => Heap.get?_push_of_some _ q) (Nat.le_refl _) ⟨Nat.zero_le _, [], 0, .nil, hS⟩
  refine ⟨⟨_, hS, rfl⟩, F.args_list_init_2 _ _, ?_⟩
  show wpAny _ _ (do let old ← Builtin.List.listItems (.ref s.heap.objs.size); Builtin.List.listUpdate (.ref s.heap.objs.size) (fun _ => #[]); letGo old.toList.reverse; Builtin.List.listExtendWith (.ref s.heap.objs.size) (.ref (b + rows.length + 2)) .none) _ _ _
  refine wpAny_bind ?_
  unfold Builtin.List.listItems
  refine wpAny_bind (wpAny_seqItems hS rfl (wpAny_pure ?_))
  show wpAny _ _ (updateSeq s.heap.objs.size (fun _ => #[]) >>= fun _ => letGo (#[] : Array Value).toList.reverse >>= fun _ => Builtin.List.listExtendWith (.ref s.heap.objs.size) (.ref (b + rows.length + 2)) .none) _ _ _
  refine wpAny_bind (wpAny_updateSeq hS rfl ?_)
  have hS₁ := Heap.get?_update_self (Obj.mapSeq (fun _ => (#[] : Array Value))) hS rfl
  have I1 := I0.lset (t' := s.toks) (its := []) (its' := []) (ys := []) (f := fun _ => (#[] : Array Value)) upd_same hS rfl .nil (Nat.zero_le _)
  rw [upd_upd] at I1
  have k1 : ∀ c o, c ≠ s.heap.objs.size → s.heap.get? c = some o → ((s.heap.push { cls := .type "list", data := .seq #[] }).update s.heap.objs.size (Obj.mapSeq (fun _ => (#[] : Array Value)))).get? c = some o :=
    fun c o hc e => (Heap.get?_update_other _ _ (Ne.symm hc)).trans (Heap.get?_push_of_some _ e)
  generalize (s.heap.push { cls := .type "list", data := .seq #[] }).update s.heap.objs.size (Obj.mapSeq (fun _ => (#[] : Array Value))) = h1 at *
  refine wpAny_bind (wpAny_letGo ?_)
  have hz1 : h1.get? (b + rows.length + 2) = _ := k1 _ _ (Nat.ne_of_lt hzlt) st.zip
  have hT1 : ({ s with heap := h1 } : Shared).TypeIs (.ref (b + rows.length + 2)) "zip" := ⟨_, hz1, rfl⟩
  unfold Builtin.List.listExtendWith
  refine wpAny_bind (wpAny_typeOf hT1 ?_)
  have g1 : Builtin.List.listSameRef (.ref s.heap.objs.size) (.ref (b + rows.length + 2)) = false := by
    have : s.heap.objs.size ≠ b + rows.length + 2 := Nat.ne_of_gt hzlt
    simp [Builtin.List.listSameRef, this]
  have g2 : (Value.type "zip" == Value.type "list") = false := by decide
  have g3 : (Value.type "zip" == Value.type "tuple") = false := by decide
  simp only [g1, g2, g3, Bool.or_false, Bool.false_eq_true, if_false]
  refine wpAny_bind (ZL.pyIter_zip (s := { s with heap := h1 }) hz1 ?_)
  refine wpAny_bind (wpAny_holding ?_)
  unfold Builtin.List.listLengthHint
  refine wpAny_bind (wpAny_specialOf hT1 nolen_zip ?_)
  show wpAny _ _ (specialOf (Value.ref (b + rows.length + 2)) (Str.ofString "__length_hint__") >>= _) _ _ _
  refine wpAny_bind (wpAny_specialOf hT1 nohint_zip ?_)
  refine wpAny_pure ?_
  show wpAny _ _ (rule "list.extend.makes-room" >>= fun _ => Builtin.List.listTouch (.ref s.heap.objs.size) >>= fun _ =>
    again (.builtin "list.extend.loop" ⟨[.ref s.heap.objs.size, .ref (b + rows.length + 2), .none], []⟩)) _ _ _
  refine wpAny_bind (wpAny_rule ?_)
  refine wpAny_bind ?_
  show wpAny _ _ (updateSeq s.heap.objs.size (·.push .none) >>= fun _ => updateSeq s.heap.objs.size (·.pop)) _ _ _
  refine wpAny_bind (wpAny_updateSeq (s := { s with heap := h1 }) hS₁ rfl ?_)
  have hS₂ := Heap.get?_update_self (Obj.mapSeq (·.push Value.none)) hS₁ rfl
  have I2 := I1.lset (t' := s.toks) (its := []) (its' := [Value.none]) (ys := [V.non]) (f := fun a => a.push Value.none) upd_same hS₁ rfl (.cons rfl .nil) (show (1 : Nat) ≤ sizeLine by decide)
  rw [upd_upd] at I2
  have k2 : ∀ c o, c ≠ s.heap.objs.size → s.heap.get? c = some o → (h1.update s.heap.objs.size (Obj.mapSeq (·.push Value.none))).get? c = some o :=
    fun c o hc e => (Heap.get?_update_other _ _ (Ne.symm hc)).trans (k1 c o hc e)
  refine wpAny_updateSeq (s := { s with heap := h1.update s.heap.objs.size (Obj.mapSeq (·.push Value.none)) }) hS₂ rfl ?_
  obtain ⟨_, its2, n2, r2, l2, e2⟩ := I2.lstM upd_same
  obtain ⟨u2, rfl⟩ : ∃ u2, its2 = [u2] := by
    cases r2 with
    | cons a b => cases b; exact ⟨_, rfl⟩
  have I3 := I2.lset (t' := s.toks) (its' := []) (ys := []) (f := fun a => a.pop) upd_same e2 rfl .nil (Nat.zero_le _)
  rw [upd_upd] at I3
  have k3 : ∀ c o, c ≠ s.heap.objs.size → s.heap.get? c = some o → ((h1.update s.heap.objs.size (Obj.mapSeq (·.push Value.none))).update s.heap.objs.size (Obj.mapSeq (·.pop))).get? c = some o :=
    fun c o hc e => (Heap.get?_update_other _ _ (Ne.symm hc)).trans (k2 c o hc e)
  have hown : ∀ c ∈ ownZ b rows.length, c ≠ s.heap.objs.size := fun c hc => by have := (ownZ_mem.mp hc).2; exact Nat.ne_of_lt (by omega)
  have kz : ∀ c o, b ≤ c → c ≤ b + rows.length + 2 → s.heap.get? c = some o → ((h1.update s.heap.objs.size (Obj.mapSeq (·.push Value.none))).update s.heap.objs.size (Obj.mapSeq (·.pop))).get? c = some o :=
    fun c o h1 h2 e => k3 c o (hown c (ownZ_mem.mpr ⟨h1, h2⟩)) e
  refine wpAny_pure ⟨plainId_quiet F.plain_extend_loop _, loopZ (X := X) (pins := pins) (σ := σ) (show X.A.in1.in1.handled = none from hA) hn hn2 hb hl hx hnz s.heap.objs.size .none H fS rw0 (fun s' H' ts' J e1 e2 e3 e4 => ⟨rfl, hR s' H' _ ts' J fS e1 e2 e3 e4⟩) n 0 _ _ [] rfl (Nat.zero_le _) I3 ⟨⟨.none, false, ?_, .inl rfl⟩, fun c hc => ?_, upd_same, rfl, fun j T h => by simp at h, sameNew fS⟩⟩
  · refine ⟨kz _ _ (by omega) (by omega) st.zip, kz _ _ (by omega) (by omega) st.ti, ?_, fun k row hk => ?_⟩
    · obtain ⟨kept, h1, h2⟩ := st.to
      exact ⟨kept, h1, kz _ _ (by omega) (by omega) h2⟩
    · have hk' := (List.getElem?_eq_some_iff.mp hk).1
      obtain ⟨o, ho, r⟩ := st.it k row hk
      exact ⟨o, kz _ _ (by omega) (by omega) ho, r⟩
  · obtain ⟨q1, q2⟩ := fp c hc
    refine ⟨?_, q2⟩
    rw [upd_ne (hown c hc)]; exact q1
/-- list(zip(*rows)), rows a list of lists of one length -/
def tLZ (K : PySem.W.Frag) (te : TE) : TE := fun σ H Q => te σ H fun x H1 => ∃ (a : Addr) (rows : List Addr) (xss : List (List V)) (n : Nat), x = .ref a ∧ SqL K H1 a (rows.map V.ref) ∧ 0 < rows.length ∧ rows.length ≤ 72 ∧ xss.length = rows.length ∧ (∀ xs ∈ xss, xs.length = n) ∧ n ≤ 1000 ∧
  (∀ (k : Nat) (row : Addr) (xs : List V), rows[k]? = some row → xss[k]? = some xs → SqL K H1 row xs) ∧ ∀ (H' : Hp) (L : Addr) (ts : List Addr), Same H1 H' → H1 L = none → H' L = some (.lst (ts.map V.ref)) → ts.length = n → (∀ (i : Nat) (T : Addr), ts[i]? = some T → H' T = some (.tup (colV xss i))) → Q (.ref L) H'
theorem pe_listZ {e : Expr} {te : TE} {p p2 pos pos2 sp_ : Pos} (hc : X.calm = true) (hgl : Gl X "list") (hml : X.mg "list" = none) (hg : Gl X "zip") (hm : X.mg "zip" = none) (he : PE X e te)
    (hst : starEach [.Starred e sp_] X.env = [(true, eval e X.env)] := by rfl)
    (hs2 : starEach [.Call (.Name "zip" p2) [.Starred e sp_] [] pos2] X.env = [(false, eval (.Call (.Name "zip" p2) [.Starred e sp_] [] pos2) X.env)] := by rfl) :
    PE X (.Call (.Name "list" p) [.Call (.Name "zip" p2) [.Starred e sp_] [] pos2] [] pos) (tLZ X.K te) := by
  refine ⟨fun pins s σ H Q I h => ?_⟩
  refine wpAny_Call_Name_kw (ld_blt I hgl hml PyProof.Rows.boot_list ?_)
  refine PyProof.Rows.callWith_type1 ?_ hs2
  rw [hs2]
  show wpAny _ _ (spliced ((false, eval (.Call (.Name "zip" p2) [.Starred e sp_] [] pos2) X.env) :: [])) _ _ s
  refine Calls.spliced_cons ?_
  refine Call_ (ld_blt I hg hm PyProof.Rows.boot_zip ?_)
  rw [hst]
  refine PySem.W.ks_call (P := fun _ => True) rfl (fun h _ => ⟨.machine, .inr (.inl rfl), fun A Q E s _ q => wpAny_pure q⟩) (PySem.W.ks_lone (thn (he.run pins s σ H _ I h) fun v s1 ⟨x, H1, I1, rx, a, rows, xss, n, ex, hT, hn, hn2, hl, hx, hnz, hrows, q⟩ => ?_))
  subst ex
  obtain rfl : v = Value.ref a := rx
  refine StX.star_any I1 (.inr hT) fun us s2 I2 rv => ⟨trivial, ?_⟩
  rw [vals_refs rv]
  have hlt : ∀ row ∈ rows, row < s2.heap.objs.size ∧ ∃ items, s2.heap.IsList row items := fun row hr => by
    obtain ⟨k, hk, e⟩ := List.getElem_of_mem hr
    have hx2 := hrows k row (xss[k]'(by omega)) (by rw [List.getElem?_eq_getElem hk, e]) (List.getElem?_eq_getElem _)
    obtain ⟨its, _, p1, _⟩ := I2.list hx2
    obtain ⟨o, ho, _⟩ := id p1.isList
    exact ⟨Heap.lt_size ho, its.toArray, p1.isList⟩
  refine ZL.call_zipN hn2 (fun row hr => (hlt row hr).2) fun h' m => ?_
  have I3 : Inv X pins σ H1 { s2 with heap := h' } := I2.kept (t' := s2.toks) m.2
  refine Calls.spliced_nil ?_
  refine call_listZ (s := { s2 with heap := h' }) I3 (I3.ok.hd hc) hn (by omega) (fun row hr => (hlt row hr).1) hl hx hnz m.1 (fun c hcm => ?_) hrows fun s' H' L ts J nL e1 e2 e3 sm => ?_
  · have hle := (ownZ_mem.mp hcm).1
    exact I2.fpOk hle (I2.hok.fresh hle)
  · exact ⟨.ref L, H', J, rfl, q H' L ts sm nL e1 e2 e3⟩
end
end Pv

namespace Pv
open PySem PySem.Spec PyProof.Rows L2
abbrev sFc : Stmt := topS 21
theorem scFc : FnScope ["instance", "routes", "spare", "cuts", "inside", "rows", "capacity", "demand", "route", "post", "left", "slack", "signs"] ["instance"] (defScope sFc) := ⟨rfl, rfl, rfl, by decide +kernel, rfl, by decide +kernel, by decide +kernel⟩
section
variable {P : Program} {w : World} {K : PySem.W.Frag} {mg : Str → Option Value} {base : Heap}
def spFc (K : PySem.W.Frag) (C : Addr) : Sp := fun vs H Q E => ∃ (i : Addr) (cs : List Int) (gs : List Gp), vs = [.ref i] ∧ Dp K H (.ref i) (dInst cs gs) ∧ InsOk cs gs ∧
  (FeasI cs gs (es0 cs gs) → ∀ H' T sl sn ts, Same H H' → SqT K H' T [.ref sl, .ref sn] → H' sl = some (.lst ((slk (nzP cs gs) (spOf cs gs) (rCro cs gs) (es0 cs gs)).map V.int)) → H' sn = some (.lst ts) → Rl (TuV K H') ts (gs.map (fun g => sgn (nzP cs gs) (rCro cs gs) (routeOf cs gs g))) → Q (.ref T) H') ∧
  (∀ ss ∈ subsL (nzP cs gs), FS (nzP cs gs) (spOf cs gs) (mem ss) (es0 cs gs) < 0 → ∀ H' d ca ra, Same H H' → H' d = none → TuV K H' (.ref ca) (ss.filter fun p => decide (spOf cs gs p < 0)) → TuV K H' (.ref ra) (ss.filter fun p => decide (0 < spOf cs gs p)) → E (.ref C) (some d) (upd H' d (.xd [("reserves", .ref ra), ("crowded", .ref ca)])))
set_option maxHeartbeats 16000000 in
theorem ok_Fc {f fGr fDm fSs fAs fSc : Addr} {fd fdGr fdDm fdSs fdAs fdSc : FuncData} (F : Fun K "find_cuts" "find_cuts" sFc f fd)
    (FGr : Fun K "group_routes" "group_routes" sGr fGr fdGr) (bGr : Binds K fdGr ["instance"] []) (gGr : mg "group_routes" = some (.ref fGr)) (GGr : FnOk P w K mg base CX0 5 fGr fdGr ["instance"] (spGr K))
    (FDm : Fun K "demands" "demands" sDem fDm fdDm) (bDm : Binds K fdDm ["instance"] []) (gDm : mg "demands" = some (.ref fDm)) (GDm : FnOk P w K mg base CX0 1 fDm fdDm ["instance"] (spVec K rDem))
    (FSs : Fun K "starting_signs" "starting_signs" sSs fSs fdSs) (bSs : Binds K fdSs ["routes", "post"] []) (gSs : mg "starting_signs" = some (.ref fSs)) (GSs : FnOk P w K mg base CX0 1 fSs fdSs ["routes", "post"] (spSs K))
    (FAs : Fun K "all_subsets" "all_subsets" sAs fAs fdAs) (bAs : Binds K fdAs ["posts"] []) (gAs : mg "all_subsets" = some (.ref fAs)) (GAs : FnOk P w K mg base CX0 1 fAs fdAs ["posts"] (spAs K))
    (FSc : Fun K "set_cut" "set_cut" sSc fSc fdSc) (bSc : Binds K fdSc ["instance", "spare", "routes", "inside"] []) (gSc : mg "set_cut" = some (.ref fSc)) (GSc : FnOk P w K mg base (CX P w) 3 fSc fdSc ["instance", "spare", "routes", "inside"] (spSc K cNU))
    (m_zip : mg "zip" = none) (m_enumerate : mg "enumerate" = none) (m_list : mg "list" = none) :
    FnOk P w K mg base (L2.CX P w) 6 f fd ["instance"] (spFc K cNU) := by
  refine F.okX scFc (fun vs H Q E h => ?_) (fun cdv A outer s H vs Q E hr h => ?_)
  · obtain ⟨i, cs, gs, rfl, _⟩ := h; rfl
  · obtain ⟨i, cs, gs, rfl, hI, ok, q⟩ := h
    refine ⟨_, pss_cons (ps_set (i := 1) scFc.nd rfl (.inr rfl) (pe_call GGr (hr.mono (by omega)) (by rfl) gGr FGr.kp bGr .nil pass0 (pa_cons (pv 0) pa_nil)))
      (pss_cons (ps_setLc (i := 2) (own := [("capacity", 6), ("demand", 7)]) (g := gTup K 2 (gCons (gName 6) (gCons (gName 7) gNil))) (tt := tYes) (te := tOp (rI0 fun i j => .int (i - j)) (tVar 6) (tVar 7)) rfl scFc.nd rfl rfl (sw_true rfl rfl rfl (by decide +kernel)) (RZ.pi_zipA (by rfl) m_zip (pa_cons (pe_ix ix_tup (pv 0) (pe_int) (fun _ _ => rfl)) (pa_cons (pe_call GDm (hr.mono (by omega)) (by rfl) gDm FDm.kp bDm .nil pass0 (pa_cons (pv 0) pa_nil)) pa_nil))) (blkOk_by (N := ["instance", "routes", "spare", "cuts", "inside", "rows", "capacity", "demand", "route", "post", "left", "slack", "signs"]) (sc := defScope sFc) (by decide +kernel)) (fun _ _ _ _ _ => pg_tup rfl (pgs_cons (pg_name (i := 6) scFc.nd rfl (.inl rfl)) (pgs_cons (pg_name (i := 7) scFc.nd rfl (.inl rfl)) pgs_nil))) (fun _ _ _ _ _ => pts_nil) (fun _ _ _ _ _ => pe_op op_sub (pv 6) (pv 7)))
      (pss_cons (ps_set (i := 3) scFc.nd rfl (.inl rfl) (pe_lst (pa_cons (pe_tup (pa_cons (pe_int) (pa_cons (pe_lc (own := [("route", 8)]) (g := gName 8) (tt := tYes) (te := tIf (tB (tIsN (tVar 8))) (tC (.int 1)) (tC (.int 0))) rfl scFc.nd (pi_list (pv 1)) (blkOk_by (N := ["instance", "routes", "spare", "cuts", "inside", "rows", "capacity", "demand", "route", "post", "left", "slack", "signs"]) (sc := defScope sFc) (by decide +kernel)) (fun _ _ _ _ _ => pg_name (i := 8) scFc.nd rfl (.inl rfl)) (fun _ _ _ _ _ => pts_nil) (fun _ _ _ _ _ => pe_ifExp (pt_cmp (pc_isN (pv 8))) (pe_int) (pe_int))) pa_nil))) pa_nil)))
      (pss_cons (ps_expr (pe_bm PySem.F.plainAttrs_list PySem.F.slot_list_extend PySem.F.type_list_extend mt_extend (pv 3) (pa_cons (pe_lc (own := [("post", 9), ("left", 10)]) (g := gTup K 2 (gCons (gName 9) (gCons (gName 10) gNil))) (tt := tTest (tOp (rI0 fun i j => .bl (decide (i < j))) (tVar 10) (tC (.int 0)))) (te := tTup (tCons (tUn (rU fun i => .int (-i)) (tVar 10)) (tCons (tCall (spSs K) [] E0 (tCons (tVar 1) (tCons (tVar 9) tNil))) tNil))) rfl scFc.nd (pi_enum (by rfl) m_enumerate (pa_cons (pv 2) pa_nil)) (blkOk_by (N := ["instance", "routes", "spare", "cuts", "inside", "rows", "capacity", "demand", "route", "post", "left", "slack", "signs"]) (sc := defScope sFc) (by decide +kernel)) (fun _ _ _ _ _ => pg_tup rfl (pgs_cons (pg_name (i := 9) scFc.nd rfl (.inl rfl)) (pgs_cons (pg_name (i := 10) scFc.nd rfl (.inl rfl)) pgs_nil))) (fun _ _ _ _ _ => pts_one (pt_cmpR op_lt (pv 10) (pe_int) (nomark _))) (fun _ _ _ _ _ => pe_tup (pa_cons (pe_un un_neg (pv 10)) (pa_cons (pe_call GSs (hr.mono (by omega)) (by rfl) gSs FSs.kp bSs .nil pass0 (pa_cons (pv 1) (pa_cons (pv 9) pa_nil))) pa_nil)))) pa_nil)))
      (pss_cons (ps_for (passes_of rfl) rfl (pi_list (pe_call GAs (hr.mono (by omega)) (by rfl) gAs FAs.kp bAs .nil pass0 (pa_cons (pe_lc (own := [("post", 9), ("left", 10)]) (g := gTup K 2 (gCons (gName 9) (gCons (gName 10) gNil))) (tt := tTest (tOp rNe (tVar 10) (tC (.int 0)))) (te := tVar 9) rfl scFc.nd (pi_enum (by rfl) m_enumerate (pa_cons (pv 2) pa_nil)) (blkOk_by (N := ["instance", "routes", "spare", "cuts", "inside", "rows", "capacity", "demand", "route", "post", "left", "slack", "signs"]) (sc := defScope sFc) (by decide +kernel)) (fun _ _ _ _ _ => pg_tup rfl (pgs_cons (pg_name (i := 9) scFc.nd rfl (.inl rfl)) (pgs_cons (pg_name (i := 10) scFc.nd rfl (.inl rfl)) pgs_nil))) (fun _ _ _ _ _ => pts_one (pt_cmpR op_ne (pv 10) (pe_int) (nomark _))) (fun _ _ _ _ _ => pv 9)) pa_nil))) (pg_name (i := 4) scFc.nd rfl (.inl rfl))
        (pss_one (ps_expr (pe_bm PySem.F.plainAttrs_list PySem.F.slot_list_append PySem.F.type_list_append mt_append (pv 3) (pa_cons (pe_callS GSc (hr.mono (by omega)) rfl gSc FSc.kp bSc (fun σ => passAt (takes_of rfl rfl rfl rfl) σ) (pa_cons (pv 0) (pa_cons (pv 2) (pa_cons (pv 1) (pa_cons (pv 4) pa_nil))))) pa_nil)))))
      (pss_cons (ps_setLc (i := 5) (own := [("slack", 11), ("signs", 12)]) (g := gTup K 2 (gCons (gName 11) (gCons (gName 12) gNil))) (tt := tYes) (te := tVar 12) rfl scFc.nd rfl rfl (sw_true rfl rfl rfl (by decide +kernel)) (pi_list (pv 3)) (blkOk_by (N := ["instance", "routes", "spare", "cuts", "inside", "rows", "capacity", "demand", "route", "post", "left", "slack", "signs"]) (sc := defScope sFc) (by decide +kernel)) (fun _ _ _ _ _ => pg_tup rfl (pgs_cons (pg_name (i := 11) scFc.nd rfl (.inl rfl)) (pgs_cons (pg_name (i := 12) scFc.nd rfl (.inl rfl)) pgs_nil))) (fun _ _ _ _ _ => pts_nil) (fun _ _ _ _ _ => pv 12))
      (pss_one (ps_ret (pe_tup (pa_cons (pe_lc (own := [("slack", 11), ("signs", 12)]) (g := gTup K 2 (gCons (gName 11) (gCons (gName 12) gNil))) (tt := tYes) (te := tVar 11) rfl scFc.nd (pi_list (pv 3)) (blkOk_by (N := ["instance", "routes", "spare", "cuts", "inside", "rows", "capacity", "demand", "route", "post", "left", "slack", "signs"]) (sc := defScope sFc) (by decide +kernel)) (fun _ _ _ _ _ => pg_tup rfl (pgs_cons (pg_name (i := 11) scFc.nd rfl (.inl rfl)) (pgs_cons (pg_name (i := 12) scFc.nd rfl (.inl rfl)) pgs_nil))) (fun _ _ _ _ _ => pts_nil) (fun _ _ _ _ _ => pv 11)) (pa_cons (pe_listZ rfl (by rfl) m_list (by rfl) m_zip (pv 5)) pa_nil)))))))))), ?_⟩
    obtain ⟨_, ca, ga, xs, e, hi, hc, hgt, hgs⟩ := inst_open hI
    cases e
    have h6 := ok.c6
    have h10 := ok.g10
    have hdl := rDem_len cs gs
    -- routes
    refine ⟨.ref i, rfl, i, cs, gs, rfl, hI, ok, fun H1 Ro rvs s1 eRo hR _ => ?_⟩
    have lrs := hR.1
    rw [List.length_map] at lrs
    -- spare
    refine ⟨.ref i, rfl, i, _, 0, .ref ca, rfl, rfl, sqS s1 hi, atI_nat (j := 0) rfl, .ref i, rfl, i, cs, gs, rfl, (TupK.of s1).dp _ _ (to_dInst _ _) hI, ok, fun H2 dm s2 hdm => ?_⟩
    obtain ⟨_, e, hdm⟩ := dI_ref hdm
    cases e
    have s02 := s1.trans s2
    refine ⟨ca, dm, _, _, rfl, .inr ⟨sqS s02 hc, hdm, fun Sp nSp => lc_it (walk_zipT (K := K) (a := ca) (b := dm) (xs := cs.map V.int) (ys := (rDem cs gs).map V.int) rfl)
      (LcP H2 Sp (cs.zip (rDem cs gs)) (fun z => some (.int (z.1 - z.2)))) (.start nSp) (fun j H3 _ h => ⟨sqS (s02.trans h.1) hc, sqS h.1 hdm⟩) ?_ ?_⟩⟩
    · rintro j v H3 H4 hlt hL ⟨T, x, y, rfl, nT, rfl, ex, ey⟩
      rw [List.length_map, List.length_map] at hlt
      have hj1 : j < cs.length := by omega
      have hj2 : j < (rDem cs gs).length := by omega
      have ex : (cs.map V.int)[j]? = some x := ex
      have ey : ((rDem cs gs).map V.int)[j]? = some y := ey
      rw [atS hj1] at ex
      rw [atS hj2] at ey
      cases ex
      cases ey
      have hz : (cs.zip (rDem cs gs))[j]? = some (cs[j], (rDem cs gs)[j]) := by rw [List.getElem?_zip_eq_some]; exact ⟨List.getElem?_eq_getElem hj1, List.getElem?_eq_getElem hj2⟩
      exact ⟨T, _, rfl, SqT.of upd_same, rfl, _, _, rfl, _, _, rfl, rfl, rfl, .int cs[j], rfl, .int (rDem cs gs)[j], rfl, _, _, rfl, rfl, hL.yes nSp (sameNew nT) hz rfl (by omega)⟩
    rintro H3 hL
    have eSp := hL.done (by rw [List.length_zip, List.length_map, List.length_map]; exact Nat.le_refl _)
    rw [fm_mapI] at eSp
    change H3 Sp = some (.lst ((spareL cs gs).map V.int)) at eSp
    have s03 := s02.trans hL.1
    have eRo3 := (s2.trans hL.1) _ _ eRo
    have hR3 := hR.tk (.of (s2.trans hL.1))
    have hsl := spareL_len cs gs
    -- the first cut
    refine ⟨.ref Ro, rfl, Ro, rfl, ⟨_, SqL.of eRo3⟩, fun D0 nD0 => lc_it (walk_list (K := K) (a := Ro) (xs := rvs))
      (LcP H3 D0 (gs.map (routeOf cs gs)) (fun r => some (.int (zSg r)))) (.start nD0) (fun j H4 _ h => SqL.of (h.1 _ _ eRo3)) ?_ ?_⟩
    · rintro j v H4 H5 hlt hM ⟨rfl, hv⟩
      have hv : rvs[j]? = some v := hv
      obtain ⟨r, hr, hrt⟩ := RtAll.at hR3 hv
      cases r with
      | none =>
        obtain rfl : v = .non := hrt
        exact ⟨rfl, .non, rfl, _, rfl, iteTT (by simp) (hM.yes nD0 (Same.refl _) hr rfl (by omega))⟩
      | some r =>
        obtain ⟨T, rfl, hT⟩ := hrt
        exact ⟨rfl, .ref T, rfl, _, rfl, iteFF (by simp) (hM.yes nD0 (Same.refl _) hr rfl (by omega))⟩
    rintro H4 hM
    have eD0 := hM.done (Nat.le_of_eq hR.1.symm)
    rw [fm_mapI] at eD0
    refine ⟨(show (2 : Nat) ≤ sizeLine by decide), fun T0 nT0 => ⟨(show (1 : Nat) ≤ sizeLine by decide), fun Cu nCu => ?_⟩⟩
    have sT0 := sameNew (o := .tup [.int 0, .ref D0]) nT0
    have sCu := sameNew (o := .lst [.ref T0]) nCu
    have s34 := hM.1.trans (sT0.trans sCu)
    have s05 := s03.trans s34
    have nD0C : D0 ≠ Cu := ne_of_none (sT0 _ _ eD0) nCu
    have fCu3 : H3 Cu = none := by
      cases e : H3 Cu with
      | none => rfl
      | some o => have := (hM.1.trans sT0) _ _ e; rw [nCu] at this; cases this
    have fCu : H Cu = none := by
      cases e : H Cu with
      | none => rfl
      | some o => have := s03 _ _ e; rw [fCu3] at this; cases this
    have cu0 : CuV (fun a => a = Cu) K (upd (upd H4 T0 (.tup [.int 0, .ref D0])) Cu (.lst [.ref T0])) (.ref T0) (0, (gs.map (routeOf cs gs)).map zSg) :=
      ⟨T0, D0, rfl, SqT.of (upNew nCu upd_same), nD0C, (sT0.trans sCu) _ _ eD0⟩
    have eCu : (upd (upd H4 T0 (.tup [.int 0, .ref D0])) Cu (.lst [.ref T0])) Cu = some (.lst [.ref T0]) := upd_same
    generalize upd (upd H4 T0 (.tup [.int 0, .ref D0])) Cu (.lst [.ref T0]) = H5 at s34 s05 cu0 eCu
    have eSp5 := s34 _ _ eSp
    have eRo5 := s34 _ _ eRo3
    have hR5 := hR3.tk (.of s34)
    -- the cuts of the crowded posts
    refine ⟨.ref Cu, rfl, .inl ⟨rfl, _, SqL.of eCu⟩, .ref Sp, rfl, Sp, _, rfl, SqL.of eSp5, fun D1 nD1 => lc_it (walk_enum (K := K) (a := Sp) (xs := (spareL cs gs).map V.int))
      (LcX (CuV (fun a => a = Cu ∨ a = D1) K) H5 D1 (List.range (spareL cs gs).length) (fun (k : Nat) => if decide ((spareL cs gs).getD k 0 < 0) = true then some (-(spareL cs gs).getD k 0, (gs.map (routeOf cs gs)).map (stSg (k : Int))) else none)) (.start nD1) (fun j H6 _ h => SqL.of (h.1 _ _ eSp5)) ?_ ?_⟩
    · rintro j v H6 H7 hlt hX ⟨T, x, y, rfl, nT, rfl, ex, ey⟩
      rw [List.length_map] at hlt
      cases ex
      have ey : ((spareL cs gs).map V.int)[j]? = some y := ey
      rw [atS hlt] at ey
      cases ey
      have hz : (List.range (spareL cs gs).length)[j]? = some j := List.getElem?_range hlt
      have hgd : (spareL cs gs).getD j 0 = (spareL cs gs)[j] := by rw [List.getD_eq_getElem?_getD, List.getElem?_eq_getElem hlt]; rfl
      have sT := sameNew (o := .tup [.int (j : Nat), .int (spareL cs gs)[j]]) nT
      have s67 := hX.1.trans sT
      refine ⟨T, _, rfl, SqT.of upd_same, rfl, _, _, rfl, _, _, rfl, rfl, rfl, .int (spareL cs gs)[j], rfl, _, _, rfl, rfl, _, rfl, ite2 (fun h1 => ?_) (fun h1 => ?_)⟩
      · refine ⟨.int (spareL cs gs)[j], rfl, _, rfl, .ref Ro, rfl, .int (j : Nat), rfl, Ro, rvs, _, (j : Nat), rfl, s67 _ _ eRo5, hR5.tk (.of s67), by rw [List.length_map]; omega, fun H8 qq s8 eq nq => ⟨(show (2 : Nat) ≤ sizeLine by decide), fun T2 nT2 => ?_⟩⟩
        have sT2 := sameNew (o := .tup [.int (-(spareL cs gs)[j]), .ref qq]) nT2
        obtain ⟨_, ws, eD1, _⟩ := id hX
        refine hX.yes (X := fun a => a = Cu ∨ a = D1) (fun _ _ _ _ l h => h.lx l) (.inr rfl) nD1 (sT.trans (s8.trans sT2)) hz (by rw [hgd, if_pos h1]) ⟨T2, qq, rfl, SqT.of upd_same, ?_, sT2 _ _ eq⟩ (by omega)
        rintro (z | z)
        · rw [z] at nq; have := s67 _ _ eCu; rw [nq] at this; cases this
        · rw [z] at nq; have := sT _ _ eD1; rw [nq] at this; cases this
      · exact hX.no (X := fun a => a = Cu ∨ a = D1) (fun _ _ _ _ l h => h.lx l) sT hz (by rw [hgd, if_neg h1])
    rintro H6 hX
    obtain ⟨ws, eD1, hws⟩ := hX.done (by rw [List.length_map, List.length_range]; exact Nat.le_refl _)
    have em1 : (List.range (spareL cs gs).length).filterMap (fun (k : Nat) => if decide ((spareL cs gs).getD k 0 < 0) = true then some (-(spareL cs gs).getD k 0, (gs.map (routeOf cs gs)).map (stSg (k : Int))) else none) = (rCro cs gs).map (fun p => (- spOf cs gs p, (gs.map (routeOf cs gs)).map (stSg p))) := by
      rw [cro_list, ← spare_posts cs gs (fun x => decide (x < 0)), List.map_filterMap]
      apply fmCongr
      intro k hk
      have hk := List.mem_range.mp hk
      have e : (spareL cs gs).getD k 0 = spOf cs gs k := by rw [List.getD_eq_getElem?_getD, List.getElem?_eq_getElem hk, Option.getD_some, spareL_at (by omega)]
      rw [e]
      split <;> rfl
    rw [em1] at hws
    have lC : (rCro cs gs).length ≤ 6 := by
      unfold rCro; exact Nat.le_trans (sel_len _ _ _) h6
    have lws : ws.length ≤ 6 := by rw [hws.1, List.length_map]; exact lC
    have eCu6 := hX.1 _ _ eCu
    refine ⟨Cu, D1, [.ref T0], ws, rfl, rfl, eCu6, eD1, small6 (by simp; omega), ?_⟩
    have l67 : LX (fun a => a = Cu) H6 (upd H6 Cu (.lst ([.ref T0] ++ ws))) := .put eCu6 rfl
    have s07 : Same H (upd H6 Cu (.lst ([.ref T0] ++ ws))) := samePut (s05.trans hX.1) fCu
    have l57 : LX (fun a => a = Cu) H5 (upd H6 Cu (.lst ([.ref T0] ++ ws))) := (LX.of hX.1).trans l67
    have eCu7 : (upd H6 Cu (.lst ([.ref T0] ++ ws))) Cu = some (.lst ([.ref T0] ++ ws)) := upd_same
    have cu7 : Rl (CuV (fun a => a = Cu) K (upd H6 Cu (.lst ([.ref T0] ++ ws)))) ([.ref T0] ++ ws) ([(0, (gs.map (routeOf cs gs)).map zSg)] ++ (rCro cs gs).map (fun p => (- spOf cs gs p, (gs.map (routeOf cs gs)).map (stSg p)))) := by
      refine Rl.app ⟨rfl, fun j v r h1 h2 => ?_⟩ (hws.mono fun v r h => (h.weak fun a z => .inl z).lx l67)
      cases j with
      | zero => cases h1; cases h2; exact cu0.lx l57
      | succ j => simp at h1
    have nRC : Ro ≠ Cu := ne_of_none eRo3 fCu3
    have nSC : Sp ≠ Cu := ne_of_none eSp fCu3
    have eSp7 := l57.ls _ _ eSp5 nSC
    have eRo7 := l57.ls _ _ eRo5 nRC
    have hR7 := hR5.tk l57.tk
    generalize upd H6 Cu (.lst ([.ref T0] ++ ws)) = H7 at s07 l57 eCu7 cu7 eSp7 eRo7 hR7 l67
    generalize hvs0 : [V.ref T0] ++ ws = vs0 at eCu7 cu7
    have lvs0 : vs0.length ≤ 7 := by rw [← hvs0]; simp; omega
    -- the sets of posts
    refine ⟨.ref Sp, rfl, Sp, _, rfl, SqL.of eSp7, fun D2 nD2 => lc_it (walk_enum (K := K) (a := Sp) (xs := (spareL cs gs).map V.int))
      (LcP H7 D2 (List.range (spareL cs gs).length) (fun (k : Nat) => if (!decide ((spareL cs gs).getD k 0 = 0)) = true then some (.int (k : Nat)) else none)) (.start nD2) (fun j H8 _ h => SqL.of (h.1 _ _ eSp7)) ?_ ?_⟩
    · rintro j v H8 H9 hlt hY ⟨T, x, y, rfl, nT, rfl, ex, ey⟩
      rw [List.length_map] at hlt
      cases ex
      have ey : ((spareL cs gs).map V.int)[j]? = some y := ey
      rw [atS hlt] at ey
      cases ey
      have hz : (List.range (spareL cs gs).length)[j]? = some j := List.getElem?_range hlt
      have hgd : (spareL cs gs).getD j 0 = (spareL cs gs)[j] := by rw [List.getD_eq_getElem?_getD, List.getElem?_eq_getElem hlt]; rfl
      have sT := sameNew (o := .tup [.int (j : Nat), .int (spareL cs gs)[j]]) nT
      refine ⟨T, _, rfl, SqT.of upd_same, rfl, _, _, rfl, _, _, rfl, rfl, rfl, .int (spareL cs gs)[j], rfl, rfl, _, rfl, ?_⟩
      by_cases h1 : (spareL cs gs)[j] = 0
      · exact iteFF (by simp [h1]) (hY.no sT hz (by rw [hgd]; simp [h1]))
      · exact iteTT (by simp [h1]) ⟨.int (j : Nat), rfl, hY.yes nD2 sT hz (by rw [hgd]; simp [h1]) (by omega)⟩
    rintro H8 hY
    have eD2 := hY.done (by rw [List.length_map, List.length_range]; exact Nat.le_refl _)
    have em2 : (List.range (spareL cs gs).length).filterMap (fun (k : Nat) => if (!decide ((spareL cs gs).getD k 0 = 0)) = true then some (V.int (k : Nat)) else none) = (nzP cs gs).map V.int := by
      unfold nzP
      rw [← spare_posts cs gs (fun x => !decide (x = 0)), List.map_filterMap]
      apply fmCongr
      intro k _
      split <;> rfl
    rw [em2] at eD2
    have lN : (nzP cs gs).length ≤ 6 := by
      unfold nzP
      exact Nat.le_trans (List.length_filter_le _ _) (by rw [List.length_map, List.length_range]; exact h6)
    refine ⟨D2, _, rfl, eD2, lN, fun H9 As avs s89 eAs hAs lAs bAs fAs => ⟨As, rfl, ⟨_, SqL.of eAs⟩, ?_⟩⟩
    have s79 := hY.1.trans s89
    have eCu9 := s79 _ _ eCu7
    have nAC : As ≠ Cu := fun z => by rw [z] at fAs; have := hY.1 _ _ eCu7; rw [fAs] at this; cases this
    have eSp9 := s79 _ _ eSp7
    have eRo9 := s79 _ _ eRo7
    have hR9 := hR7.tk (.of s79)
    have cu9 := cu7.mono fun v r h => h.lx (.of s79)
    have s09 := s07.trans s79
    have hIat : ∀ {Hx : Hp}, Same H Hx → Dp K Hx (.ref i) (dInst cs gs) := fun s => (TupK.of s).dp _ _ (to_dInst _ _) hI
    refine for_it (walk_list (K := K) (a := As) (xs := avs))
      (fun j σ H10 => ∃ (y4 : Option V) (vs : List V), σ = [some (.ref i), some (.ref Ro), some (.ref Sp), some (.ref Cu), y4, none, none, none, none, none, none, none, none] ∧ LX (fun a => a = Cu) H9 H10 ∧ Same H H10 ∧ H10 Cu = some (.lst vs) ∧
        Rl (CuV (fun a => a = Cu) K H10) vs ([(0, (gs.map (routeOf cs gs)).map zSg)] ++ (rCro cs gs).map (fun p => (- spOf cs gs p, (gs.map (routeOf cs gs)).map (stSg p))) ++ ((subsL (nzP cs gs)).take j).map (fun s => (FS (nzP cs gs) (spOf cs gs) (mem s) (es0 cs gs), (gs.map (routeOf cs gs)).map (sg (mem s))))) ∧
        ∀ s ∈ (subsL (nzP cs gs)).take j, 0 ≤ FS (nzP cs gs) (spOf cs gs) (mem s) (es0 cs gs))
      ⟨none, vs0, rfl, .refl, s09, eCu9, by simpa using cu9, fun s h => (by simp at h)⟩ (fun j σ H10 _ h => by obtain ⟨_, _, _, l10, _⟩ := h; exact SqL.of (l10.ls _ _ eAs nAC)) ?_ ?_
    · rintro j v σ H10 H10' hlt ⟨y4, vs, rfl, l10, s010, e10, cu10, fs10⟩ ⟨rfl, hv⟩
      have hv : avs[j]? = some v := hv
      obtain ⟨ss, hss, Tn, rfl, hTn⟩ := hAs.at hv
      have hmem := List.mem_of_getElem? hss
      have lvs : vs.length ≤ 71 := by
        rw [cu10.1]
        simp only [List.length_append, List.length_map, List.length_take, List.length_cons, List.length_nil]
        omega
      refine ⟨.ref Cu, rfl, .inl ⟨rfl, _, SqL.of e10⟩, .ref i, rfl, .ref Sp, rfl, .ref Ro, rfl, .ref Tn, rfl, i, Sp, Ro, Tn, cs, gs, rvs, ss, rfl, hIat s010, ok, l10.ls _ _ eSp9 nSC, l10.ls _ _ eRo9 nRC, hR9.tk l10.tk, l10.tk.sq hTn, hmem, bAs ss hmem, fun h0 H11 T qq s11 eT eq nq => ?_, fun hneg H11 d ca' ra s11 nd hca hra => ?_⟩
      · have e11 := s11 _ _ e10
        have lp : LX (fun a => a = Cu) H11 (upd H11 Cu (.lst (vs ++ [.ref T]))) := .put e11 rfl
        have hq : qq ≠ Cu := fun z => by rw [z] at nq; rw [nq] at e10; cases e10
        refine ⟨Cu, vs, _, rfl, rfl, e11, small (by omega), _, vs ++ [.ref T], rfl, (l10.trans (.of s11)).trans lp, samePut (s010.trans s11) fCu, upd_same, ?_, fun s hs => ?_⟩
        · rw [take_snoc hss, List.map_append, ← List.append_assoc]
          exact Rl.snoc (cu10.mono fun v r h => h.lx ((LX.of s11).trans lp)) (CuV.lx ⟨T, qq, rfl, SqT.of eT, hq, eq⟩ lp)
        · rw [take_snoc hss] at hs
          rcases List.mem_append.mp hs with h | h
          · exact fs10 s h
          · simp at h; subst h; exact h0
      · exact q.2 ss hmem hneg _ d ca' ra (s010.trans s11) nd hca hra
    rintro σ H10 ⟨y4, vs, rfl, l10, s010, e10, cu10, fs10⟩
    rw [hAs.1, List.take_length] at cu10 fs10
    change Rl (CuV (fun a => a = Cu) K H10) vs (cutF cs gs) at cu10
    have Fe := feas0 ok fs10
    have lvs : vs.length ≤ 71 := by
      rw [cu10.1]
      unfold cutF
      simp only [List.length_append, List.length_map, List.length_cons, List.length_nil]
      rw [← hAs.1]; omega
    have lpos : 0 < (cutF cs gs).length := by unfold cutF; simp
    -- rows
    refine ⟨.ref Cu, rfl, Cu, rfl, ⟨_, SqL.of e10⟩, fun D5 nD5 => lc_it (walk_list (K := K) (a := Cu) (xs := vs))
      (LcX (QV (fun a => a = Cu ∨ a = D5)) H10 D5 (cutF cs gs) (fun c => some c.2)) (.start nD5) (fun j H11 _ h => SqL.of (h.1 _ _ e10)) ?_ ?_⟩
    · rintro j v H11 H12 hlt hL5 ⟨rfl, hv⟩
      have hv : vs[j]? = some v := hv
      obtain ⟨c, hc', T, qq, rfl, hT, nX, eq⟩ := cu10.at hv
      refine ⟨T, _, rfl, sqS hL5.1 hT, rfl, _, _, rfl, _, _, rfl, rfl, rfl, .ref qq, rfl, hL5.yes (X := fun a => a = Cu ∨ a = D5) (fun _ _ _ _ l h => h.lx l) (.inr rfl) nD5 (Same.refl _) hc' rfl ⟨qq, rfl, ?_, hL5.1 _ _ eq⟩ (by omega)⟩
      rintro (z | z)
      · exact nX z
      · rw [z] at eq; rw [nD5] at eq; cases eq
    rintro H11 hL5
    obtain ⟨rw5, eD5, hrw⟩ := hL5.done (Nat.le_of_eq cu10.1.symm)
    have em5 : (cutF cs gs).filterMap (fun c => some c.2) = (cutF cs gs).map (fun c => c.2) := by
      generalize cutF cs gs = l
      induction l with
      | nil => rfl
      | cons x l ih => simp [ih]
    rw [em5] at hrw
    have s011 := s010.trans hL5.1
    have e11 := hL5.1 _ _ e10
    have cu11 := cu10.mono fun v r h => h.lx (.of hL5.1)
    -- slacks
    refine ⟨.ref Cu, rfl, Cu, rfl, ⟨_, SqL.of e11⟩, fun D6 nD6 => lc_it (walk_list (K := K) (a := Cu) (xs := vs))
      (LcP H11 D6 (cutF cs gs) (fun c => some (.int c.1))) (.start nD6) (fun j H12 _ h => SqL.of (h.1 _ _ e11)) ?_ ?_⟩
    · rintro j v H12 H13 hlt hL6 ⟨rfl, hv⟩
      have hv : vs[j]? = some v := hv
      obtain ⟨c, hc', T, qq, rfl, hT, nX, eq⟩ := cu11.at hv
      exact ⟨T, _, rfl, sqS hL6.1 hT, rfl, _, _, rfl, _, _, rfl, rfl, rfl, .int c.1, rfl, hL6.yes nD6 (Same.refl _) hc' rfl (by omega)⟩
    rintro H12 hL6
    have eD6 := hL6.done (Nat.le_of_eq cu10.1.symm)
    rw [fm_mapI, cutF_slk] at eD6
    obtain ⟨rows, hvr, lrows, hrows⟩ := QV.rows (hrw.mono fun v r h => h.lx (.of hL6.1))
    rw [List.length_map] at lrows
    have eD5' := hL6.1 _ _ eD5
    rw [hvr] at eD5'
    refine ⟨.ref D5, rfl, D5, rows, (cutF cs gs).map (fun c => c.2.map V.int), gs.length, rfl, SqL.of eD5', by omega, by rw [lrows, ← cu10.1]; omega, by rw [List.length_map, lrows], ?_, by omega, ?_, fun H13 Ls ts s13 nLs eLs lts hts => ⟨(show (2 : Nat) ≤ sizeLine by decide), fun Tt nTt => ?_⟩⟩
    · intro ys hys
      obtain ⟨c, hc', rfl⟩ := List.mem_map.mp hys
      rw [List.length_map]; exact cutF_len hc'
    · intro k row ys hk hy
      rw [List.getElem?_map] at hy
      obtain ⟨c, hc', rfl⟩ := Option.map_eq_some_iff.mp hy
      exact SqL.of (hrows k row c.2 hk (by rw [List.getElem?_map, hc']; rfl))
    have sTt := sameNew (o := .tup [.ref D6, .ref Ls]) nTt
    refine q.1 Fe _ Tt D6 Ls (ts.map V.ref) ((s011.trans hL6.1).trans (s13.trans sTt)) (SqT.of upd_same) ((s13.trans sTt) _ _ eD6) (sTt _ _ eLs) ⟨by rw [List.length_map, List.length_map, lts], fun j v r h1 h2 => ?_⟩
    rw [List.getElem?_map] at h1 h2
    obtain ⟨T, hT, rfl⟩ := Option.map_eq_some_iff.mp h1
    obtain ⟨g, hg, rfl⟩ := Option.map_eq_some_iff.mp h2
    have hj := (List.getElem?_eq_some_iff.mp hg).1
    have hg' : g = gs[j] := by rw [List.getElem?_eq_getElem hj] at hg; exact (Option.some.inj hg).symm
    have hcol : colV ((cutF cs gs).map (fun c => c.2.map V.int)) j = (sgn (nzP cs gs) (rCro cs gs) (routeOf cs gs g)).map V.int := by
      rw [hg', ← cutF_sgn hj]
      unfold colV
      rw [List.map_map, List.map_map]
      apply List.map_congr_left
      intro c hc'
      have hl := cutF_len hc'
      simp only [Function.comp]
      rw [List.getD_eq_getElem?_getD, List.getD_eq_getElem?_getD, List.getElem?_map, List.getElem?_eq_getElem (by omega)]
      rfl
    refine ⟨T, rfl, SqT.of (sTt _ _ ?_)⟩
    rw [hts j T hT, hcol]
end
end Pv

namespace Pv
open PySem PySem.Spec PyProof.Rows L2
/-! all vectors, by trying -/
def nOf (cs : List Int) (gs : List Gp) (g : Gp) : Nat := if (routeOf cs gs g).isSome = true then (1 + g.2).toNat else 1
def tupsTo (cs : List Int) (gs : List Gp) : Nat → List (List Int)
  | 0 => [[]]
  | j + 1 => (tupsTo cs gs j).flatMap fun xs => (List.range ((gs[j]?.map (nOf cs gs)).getD 0)).map fun (n : Nat) => xs ++ [(n : Int)]
def vecsL (cs : List Int) (gs : List Gp) : List (List Int) := (tupsTo cs gs gs.length).filter fun xs => isVecD cs gs (dI xs)
theorem tups_len {cs : List Int} {gs : List Gp} : ∀ {j : Nat} {xs : List Int}, xs ∈ tupsTo cs gs j → xs.length = j
  | 0, xs, h => by simp [tupsTo] at h; subst h; rfl
  | j + 1, xs, h => by
    simp only [tupsTo, List.mem_flatMap, List.mem_map] at h
    obtain ⟨ys, hy, n, _, rfl⟩ := h
    simp [tups_len hy]
theorem vecD_iff {cs : List Int} {gs : List Gp} {xs : List Int} : isVecD cs gs (dI xs) = true ↔ IsVec cs gs xs := by
  have hm : (xs.map PyData.int).map intAt = xs := by
    rw [List.map_map]
    have : intAt ∘ PyData.int = id := rfl
    rw [this]; simp
  unfold isVecD IsVec dI
  simp only [tupIt, hm, Bool.and_eq_true]
  unfold tupOfD
  rw [decide_eq_true_iff, List.all_eq_true, List.length_map]
  constructor
  · rintro ⟨h1, h2, h3⟩
    refine ⟨by omega, fun j g x hg hx => ?_, h3⟩
    have hq : (gs.zip (xs.map PyData.int))[j]? = some (g, .int x) := by rw [List.getElem?_zip_eq_some]; exact ⟨hg, by rw [List.getElem?_map, hx]; rfl⟩
    have := h2 _ (List.mem_of_getElem? hq)
    simpa [withinD] using this
  · rintro ⟨h1, h2, h3⟩
    refine ⟨by omega, fun z hz => ?_, h3⟩
    obtain ⟨j, hj, e⟩ := List.mem_iff_getElem.mp hz
    have e2 := List.getElem?_eq_getElem hj
    rw [e, List.getElem?_zip_eq_some] at e2
    obtain ⟨ha, hb⟩ := e2
    rw [List.getElem?_map] at hb
    obtain ⟨x, hx, hb⟩ := Option.map_eq_some_iff.mp hb
    have := h2 j z.1 x ha hx
    rw [← hb]
    simpa [withinD] using this
theorem vec_none {cs : List Int} {gs : List Gp} {xs : List Int} (hv : IsVec cs gs xs) {j : Nat} {g : Gp} {x : Int} (hg : gs[j]? = some g) (hx : xs[j]? = some x) (hr : routeOf cs gs g = none) : x = 0 := by
  have hj := (List.getElem?_eq_some_iff.mp hg).1
  have h := hv.2.2
  unfold meetsD at h
  rw [Bool.and_eq_true, Bool.and_eq_true, List.all_eq_true] at h
  have hz := zs_at (cs := cs) hv.1 hj
  have hg' : gs[j] = g := by rw [List.getElem?_eq_getElem hj] at hg; exact Option.some.inj hg
  have hx' : xs[j]'(by rw [hv.1]; exact hj) = x := by rw [List.getElem?_eq_getElem (by rw [hv.1]; exact hj)] at hx; exact Option.some.inj hx
  rw [hg', hx', hr] at hz
  have := h.1.1 _ (List.mem_of_getElem? hz)
  simpa [goodZ] using this
theorem vec_mem {cs : List Int} {gs : List Gp} {xs : List Int} : xs ∈ vecsL cs gs ↔ IsVec cs gs xs := by
  unfold vecsL
  rw [List.mem_filter, vecD_iff]
  refine ⟨fun h => h.2, fun hv => ⟨?_, hv⟩⟩
  have key : ∀ j, j ≤ gs.length → xs.take j ∈ tupsTo cs gs j := by
    intro j
    induction j with
    | zero => intro _; simp [tupsTo]
    | succ j ih =>
      intro h
      have hg : gs[j]? = some gs[j] := List.getElem?_eq_getElem (by omega)
      have hjx : j < xs.length := by rw [hv.1]; omega
      have hx : xs[j]? = some xs[j] := List.getElem?_eq_getElem hjx
      have hb := hv.2.1 j gs[j] xs[j] hg hx
      simp only [tupsTo, List.mem_flatMap, List.mem_map, hg, Option.map_some, Option.getD_some]
      refine ⟨xs.take j, ih (by omega), xs[j].toNat, List.mem_range.mpr ?_, ?_⟩
      · unfold nOf
        cases hr : routeOf cs gs gs[j] with
        | none => have := vec_none hv hg hx hr; simp; omega
        | some r => simp; omega
      · rw [take_snoc hx]
        congr 2
        omega
  have := key gs.length (Nat.le_refl _)
  rwa [List.take_of_length_le (by rw [hv.1]; exact Nat.le_refl _)] at this
end Pv

namespace Pv
open PySem PySem.Spec PyProof.Rows L2
abbrev sLa : Stmt := topS 50
theorem scLa : FnScope ["_law_instance_here", "_law_found", "_law_open_ones", "_law_group", "_law_posts", "_law_count", "_law_longer", "_law_numbers", "_law_row", "_law_number"] ["_law_instance_here"] (defScope sLa) := ⟨rfl, rfl, rfl, by decide +kernel, rfl, by decide +kernel, by decide +kernel⟩
section
variable {P : Program} {w : World} {K : PySem.W.Frag} {mg : Str → Option Value} {base : Heap}
def spLa (K : PySem.W.Frag) : Sp := fun vs H Q _ => ∃ (i : Addr) (cs : List Int) (gs : List Gp), vs = [.ref i] ∧ Dp K H (.ref i) (dInst cs gs) ∧ InsOk cs gs ∧ gs.length ≤ 4 ∧ (∀ g ∈ gs, g.2 ≤ 5) ∧
  ∀ H' p vs, Same H H' → H' p = some (.lst vs) → Rl (TuV K H') vs (vecsL cs gs) → vs.length ≤ 1296 → H p = none → Q (.ref p) H'
set_option maxHeartbeats 8000000 in
theorem ok_La {f fLw fLv : Addr} {fd fdLw fdLv : FuncData} (F : Fun K "_law_all_vectors" "_law_all_vectors" sLa f fd)
    (FLw : Fun K "_law_rows" "_law_rows" sLw fLw fdLw) (bLw : Binds K fdLw ["_law_instance_here"] []) (gLw : mg "_law_rows" = some (.ref fLw)) (GLw : FnOk P w K mg base CX0 3 fLw fdLw ["_law_instance_here"] (spLw K))
    (FLv : Fun K "_law_is_vector" "_law_is_vector" sLv fLv fdLv) (bLv : Binds K fdLv ["_law_instance_here", "_law_value"] []) (gLv : mg "_law_is_vector" = some (.ref fLv)) (GLv : FnOk P w K mg base CX0 4 fLv fdLv ["_law_instance_here", "_law_value"] (spIv K))
    (m_enumerate : mg "enumerate" = none) (m_int : mg "int" = none) (m_range : mg "range" = none) :
    FnOk P w K mg base CX0 5 f fd ["_law_instance_here"] (spLa K) := by
  refine F.ok scLa (fun vs H Q E h => ?_) (fun cdv A outer s H vs Q E hr h => ?_)
  · obtain ⟨i, cs, gs, rfl, _⟩ := h; rfl
  · obtain ⟨i, cs, gs, rfl, hI, ok, h4, h3, q⟩ := h
    refine ⟨_, pss_cons (ps_set (i := 1) scLa.nd rfl (.inl rfl) (pe_lst (pa_cons (pe_tup (pa_nil)) pa_nil)))
      (pss_cons (ps_setLc (i := 2) (own := [("_law_row", 8)]) (g := gName 8) (tt := tYes) (te := tOp (rIxT K) (tVar 8) (tC (.int 0))) rfl scLa.nd rfl rfl (sw_true rfl rfl rfl (by decide +kernel)) (pi_list (pe_call GLw (hr.mono (by omega)) (by rfl) gLw FLw.kp bLw .nil pass0 (pa_cons (pv 0) pa_nil))) (blkOk_by (N := ["_law_instance_here", "_law_found", "_law_open_ones", "_law_group", "_law_posts", "_law_count", "_law_longer", "_law_numbers", "_law_row", "_law_number"]) (sc := defScope sLa) (by decide +kernel)) (fun _ _ _ _ _ => pg_name (i := 8) scLa.nd rfl (.inl rfl)) (fun _ _ _ _ _ => pts_nil) (fun _ _ _ _ _ => pe_ix ix_tup (pv 8) (pe_int) (fun _ _ => rfl)))
      (pss_cons (ps_for PassesOwn.never rfl (pi_enumT (by rfl) m_enumerate (pa_cons (pe_ix ix_tup (pv 0) (pe_int) (fun _ _ => rfl)) pa_nil)) (pg_tup rfl (pgs_cons (pg_name (i := 3) scLa.nd rfl (.inl rfl)) (pgs_cons (pg_tup rfl (pgs_cons (pg_name (i := 4) scLa.nd rfl (.inl rfl)) (pgs_cons (pg_name (i := 5) scLa.nd rfl (.inl rfl)) pgs_nil))) pgs_nil)))
        (pss_cons (ps_set (i := 6) scLa.nd rfl (.inl rfl) (pe_lst (pa_nil)))
        (pss_cons (ps_for PassesOwn.never rfl (pi_list (pv 1)) (pg_name (i := 7) scLa.nd rfl (.inr rfl))
          (pss_one (ps_expr (pe_bm PySem.F.plainAttrs_list PySem.F.slot_list_extend PySem.F.type_list_extend mt_extend (pv 6) (pa_cons (pe_lc (own := [("_law_number", 9)]) (g := gName 9) (tt := tYes) (te := tOp (rCatA K) (tVar 7) (tTup (tCons (tVar 9) tNil))) rfl scLa.nd (pi_range1 (by rfl) m_range (pa_cons (pe_op op_add (pe_int) (pe_op op_mul (pv 5) (pe_callTy call_int1 (by rfl) m_int (by decide +kernel) (pa_cons (pe_cmpR op_in_seq (pv 3) (pv 2) (by rfl)) pa_nil)))) pa_nil)) (blkOk_by (N := ["_law_instance_here", "_law_found", "_law_open_ones", "_law_group", "_law_posts", "_law_count", "_law_longer", "_law_numbers", "_law_row", "_law_number"]) (sc := defScope sLa) (by decide +kernel)) (fun _ _ _ _ _ => pg_name (i := 9) scLa.nd rfl (.inl rfl)) (fun _ _ _ _ _ => pts_nil) (fun _ _ _ _ _ => pe_op op_catA (pv 7) (pe_tup (pa_cons (pv 9) pa_nil)))) pa_nil)))))
        (pss_one (ps_set (i := 1) scLa.nd rfl (.inl rfl) (pv 6))))))
      (pss_one (ps_ret (pe_lc (own := [("_law_numbers", 7)]) (g := gName 7) (tt := tB (tCall (spIv K) [] E0 (tCons (tVar 0) (tCons (tVar 7) tNil)))) (te := tVar 7) rfl scLa.nd (pi_list (pv 1)) (blkOk_by (N := ["_law_instance_here", "_law_found", "_law_open_ones", "_law_group", "_law_posts", "_law_count", "_law_longer", "_law_numbers", "_law_row", "_law_number"]) (sc := defScope sLa) (by decide +kernel)) (fun _ _ _ _ _ => pg_name (i := 7) scLa.nd rfl (.inl rfl)) (fun _ _ _ _ _ => pts_one (pt_val (pe_call GLv (hr.mono (by omega)) (by rfl) gLv FLv.kp bLv .nil pass0 (pa_cons (pv 0) (pa_cons (pv 7) pa_nil))))) (fun _ _ _ _ _ => pv 7)))))), ?_⟩
    obtain ⟨_, ca, ga, xs, e, hi, hc, hgt, hgs⟩ := inst_open hI
    cases e
    have lx := DpAll.len hgs
    rw [List.length_map] at lx
    have h10 := ok.g10
    refine ⟨Nat.zero_le _, fun T0 nT0 => ⟨(show (1 : Nat) ≤ sizeLine by decide), fun Fo nFo => ?_⟩⟩
    have sF := (sameNew (o := .tup []) nT0).trans (sameNew (o := .lst [.ref T0]) nFo)
    have eFo : (upd (upd H T0 (.tup [])) Fo (.lst [.ref T0])) Fo = some (.lst [.ref T0]) := upd_same
    have hT0 : SqT K (upd (upd H T0 (.tup [])) Fo (.lst [.ref T0])) T0 [] := SqT.of (upNew nFo upd_same)
    generalize upd (upd H T0 (.tup [])) Fo (.lst [.ref T0]) = H0 at sF eFo hT0
    refine ⟨.ref i, rfl, i, cs, gs, rfl, (TupK.of sF).dp _ _ (to_dInst _ _) hI, ok, fun H1 Ro rv s1 eR hR fR => ⟨Ro, rfl, ⟨_, SqL.of eR⟩, fun D nD => lc_it (walk_list (K := K) (a := Ro) (xs := rv))
      (LcP H1 D (rowsTo cs gs gs.length) (fun r => some (.int (r.1 : Nat)))) (.start nD) (fun j H _ h => SqL.of (h.1 _ _ eR)) ?_ ?_⟩⟩
    · rintro m v H8 H9 hm hM ⟨rfl, hv⟩
      have hv : rv[m]? = some v := hv
      obtain ⟨r, hr, T3, rfl, hT3⟩ := hR.at hv
      have hrl := rowsTo_len cs gs gs.length
      have := hR.1
      exact ⟨rfl, .ref T3, rfl, T3, _, 0, _, rfl, rfl, sqS hM.1 hT3, atI_nat (j := 0) rfl, hM.yes nD (Same.refl _) hr rfl (by omega)⟩
    rintro H2 hM
    have eD := hM.done (Nat.le_of_eq hR.1.symm)
    rw [fm_mapI (fun (r : Rw) => (r.1 : Int))] at eD
    have s12 := s1.trans hM.1
    have s2 := sF.trans s12
    refine ⟨.ref i, rfl, i, _, 1, .ref ga, rfl, rfl, sqS s2 hi, atI_nat (j := 1) rfl, ga, _, rfl, sqS s2 hgt, for_it (walk_enumT (K := K) (a := ga) (xs := xs))
      (fun j σ H3 => ∃ (Fj : Addr) (y3 y4 y5 y6 y7 : Option V) (vs : List V), σ = [some (.ref i), some (.ref Fj), some (.ref D), y3, y4, y5, y6, y7, none, none] ∧ Same H2 H3 ∧ H3 Fj = some (.lst vs) ∧ Rl (TuV K H3) vs (tupsTo cs gs j) ∧ vs.length ≤ 6 ^ j)
      ⟨Fo, none, none, none, none, none, [.ref T0], rfl, Same.refl _, s12 _ _ eFo, ⟨rfl, ?_⟩, by simp⟩ (fun j σ H3 _ h => by obtain ⟨_, _, _, _, _, _, _, _, s3, _⟩ := h; exact sqS (s2.trans s3) hgt) ?_ ?_⟩
    · intro j v r h1 h2
      cases j with
      | zero => cases h1; cases h2; exact ⟨T0, rfl, sqS s12 hT0⟩
      | succ j => simp at h1
    · rintro j v σ H3 H4 hlt ⟨Fj, y3, y4, y5, y6, y7, vs, rfl, s3, e3, hv3, l3⟩ ⟨T, x, y, rfl, nT, rfl, ex, ey⟩
      have hj : j < gs.length := by omega
      have hg : gs[j]? = some gs[j] := List.getElem?_eq_getElem hj
      obtain ⟨gA, pA, hx, hG, hP⟩ := grp_at hgs hg
      cases ex
      have ey : xs[j]? = some y := ey
      rw [hx] at ey
      cases ey
      have hgc := h3 gs[j] (List.getElem_mem hj)
      have hgc1 := (ok.gp gs[j] (List.getElem_mem hj)).2.2.1
      have l3' : vs.length ≤ 1296 := Nat.le_trans l3 (Nat.le_trans (Nat.pow_le_pow_right (by decide) (show j ≤ 4 by omega)) (by decide))
      have sT := sameNew (o := .tup [.int (j : Nat), .ref gA]) nT
      refine ⟨T, _, rfl, SqT.of upd_same, rfl, _, _, rfl, _, _, rfl, gA, _, rfl, sqS (s2.trans (s3.trans sT)) hG, rfl, _, _, rfl, _, _, rfl, rfl, rfl, ?_⟩
      generalize upd H3 T (.tup [.int (j : Nat), .ref gA]) = H4 at sT
      refine ⟨Nat.zero_le _, fun Lo nLo => ?_⟩
      have e4 := sT _ _ e3
      have hv4 : Rl (TuV K H4) vs (tupsTo cs gs j) := hv3.mono fun v r h => h.tk (.of sT)
      have eD4 := (s3.trans sT) _ _ eD
      refine ⟨.ref Fj, rfl, Fj, rfl, ⟨_, SqL.of (upNew nLo e4)⟩, for_it (walk_list (K := K) (a := Fj) (xs := vs))
        (fun k σ H5 => ∃ (y7 : Option V) (ws : List V), σ = [some (.ref i), some (.ref Fj), some (.ref D), some (.int (j : Nat)), some (.ref pA), some (.int gs[j].2), some (.ref Lo), y7, none, none] ∧ Same H4 H5 ∧ H5 Lo = some (.lst ws) ∧ Rl (TuV K H5) ws (((tupsTo cs gs j).take k).flatMap fun xs => (List.range (nOf cs gs gs[j])).map fun (n : Nat) => xs ++ [(n : Int)]) ∧ ws.length ≤ 6 * k)
        ⟨_, [], rfl, sameNew nLo, upd_same, Rl.nil, by simp⟩ (fun k σ H5 _ h => by obtain ⟨_, _, _, s5, _⟩ := h; exact SqL.of (s5 _ _ e4)) ?_ ?_⟩
      · rintro k v σ H5 H6 hk ⟨y7, ws, rfl, s5, e5, hw5, l5⟩ ⟨rfl, hv⟩
        have hv : vs[k]? = some v := hv
        obtain ⟨ns, hns, Tn, rfl, hTn⟩ := hv4.at hv
        have hnl := tups_len (List.mem_of_getElem? hns)
        have hTn5 := sqS s5 hTn
        refine ⟨.ref Lo, rfl, .inl ⟨rfl, _, SqL.of e5⟩, .int gs[j].2, rfl, .int (j : Nat), rfl, .ref D, rfl, D, _, rfl, .inl (SqL.of (s5 _ _ eD4)), rfl, flat_ints _, .inr ⟨_, rfl, _, _, rfl, rfl, .inl ⟨by omega, by omega⟩, _, _, rfl, rfl, ?_⟩⟩
        have hop : inV (V.int (j : Nat)) (((rowsTo cs gs gs.length).map (fun (r : Rw) => (r.1 : Int))).map V.int) = (routeOf cs gs gs[j]).isSome := by rw [inV_ints]; exact rows_has hj hj
        have hm : ∃ m : Int, (1 : Int) + gs[j].2 * (if (if false = true then !inV (V.int (j : Nat)) (((rowsTo cs gs gs.length).map (fun (r : Rw) => (r.1 : Int))).map V.int) else inV (V.int (j : Nat)) (((rowsTo cs gs gs.length).map (fun (r : Rw) => (r.1 : Int))).map V.int)) = true then 1 else 0) = m ∧ m.toNat = nOf cs gs gs[j] ∧ 0 ≤ m ∧ m ≤ 6 := by
          refine ⟨_, rfl, ?_⟩
          rw [if_neg Bool.false_ne_true, hop]
          unfold nOf
          cases (routeOf cs gs gs[j]).isSome
          · simp
          · simp; omega
        obtain ⟨m, hme, hmt, hm0, hm6⟩ := hm
        refine ⟨m, by rw [← hme], by omega, by omega, fun D2 nD2 => lc_it (walk_range (lo := 0) (n := m.toNat)) (LcR (TuV K) H6 D2 (List.range m.toNat) (fun (n : Nat) => some (ns ++ [(n : Int)]))) (.start nD2) (fun _ _ _ _ => trivial) ?_ ?_⟩
        · rintro n v H7 H8 hn hL ⟨rfl, rfl⟩
          have e0 : (0 : Int) + (n : Nat) = ((n : Nat) : Int) := by omega
          dsimp only
          rw [e0]
          refine ⟨rfl, .ref Tn, rfl, .int (n : Nat), rfl, (show (1 : Nat) ≤ sizeLine by decide), fun N nN => cat_eq (sqS (hL.1.trans (sameNew nN)) hTn5) (SqT.of upd_same) ?_ (fun H9 p s9 hp => ?_)⟩
          · rw [List.length_map]; exact small6 (by simp; omega)
          · exact hL.yes (fun _ _ _ _ tk h => h.tk tk) nD2 ((sameNew nN).trans s9) (List.getElem?_range hn) rfl ⟨p, rfl, by rw [List.map_append]; exact hp⟩ (by omega)
        rintro H7 hL
        obtain ⟨zs, e7, hz7⟩ := hL.done (by simp)
        have emz : (List.range m.toNat).filterMap (fun (n : Nat) => some (ns ++ [(n : Int)])) = (List.range (nOf cs gs gs[j])).map (fun (n : Nat) => ns ++ [(n : Int)]) := by
          rw [hmt]
          generalize List.range (nOf cs gs gs[j]) = l
          induction l with
          | nil => rfl
          | cons x l ih => simp [ih]
        rw [emz] at hz7
        have eL7 := hL.1 _ _ e5
        have hzl : zs.length ≤ 6 := by
          rw [hz7.1, List.length_map, List.length_range, ← hmt]; omega
        have tkp : TupK H7 (upd H7 Lo (.lst (ws ++ zs))) := TupK.put eL7
        refine ⟨Lo, D2, ws, zs, rfl, rfl, eL7, e7, small6 (by omega), _, ws ++ zs, rfl, samePut (s5.trans hL.1) nLo, upd_same, ?_, by rw [List.length_append]; omega⟩
        rw [take_snoc hns, List.flatMap_append]
        simp only [List.flatMap_cons, List.flatMap_nil, List.append_nil]
        exact (hw5.mono fun v r h => h.tk ((TupK.of hL.1).trans tkp)).app (hz7.mono fun v r h => h.tk tkp)
      · rintro σ H5 ⟨y7, ws, rfl, s5, e5, hw5, l5⟩
        refine ⟨.ref Lo, rfl, Lo, _, _, _, _, _, ws, rfl, s3.trans (sT.trans s5), e5, ?_, by rw [Nat.pow_succ]; omega⟩
        rw [hv4.1, List.take_length] at hw5
        simp only [tupsTo, hg, Option.map_some, Option.getD_some]
        exact hw5
    · rintro σ H3 ⟨Fj, y3, y4, y5, y6, y7, vs, rfl, s3, e3, hv3, l3⟩
      rw [lx] at hv3 l3
      have l3' : vs.length ≤ 1296 := Nat.le_trans l3 (Nat.le_trans (Nat.pow_le_pow_right (by decide) h4) (by decide))
      have s03 := s2.trans s3
      refine ⟨.ref Fj, rfl, Fj, rfl, ⟨_, SqL.of e3⟩, fun D2 nD2 => lc_it (walk_list (K := K) (a := Fj) (xs := vs))
        (LcR (TuV K) H3 D2 (tupsTo cs gs gs.length) (fun ns => if isVecD cs gs (dI ns) = true then some ns else none)) (.start nD2) (fun j H _ h => SqL.of (h.1 _ _ e3)) ?_ ?_⟩
      · rintro k v H5 H6 hk hL ⟨rfl, hv⟩
        have hv : vs[k]? = some v := hv
        obtain ⟨ns, hns, Tn, rfl, hTn⟩ := hv3.at hv
        refine ⟨rfl, .ref i, rfl, .ref Tn, rfl, i, i, i, .ref Tn, cs, gs, dI ns, rfl, (TupK.of (s03.trans hL.1)).dp _ _ (to_dInst _ _) hI, ok, .of_dp (to_ints ns) (dI_sq (sqS hL.1 hTn)), fun H7 s7 => ⟨_, rfl, ite2 (fun h1 => ?_) (fun h1 => ?_)⟩⟩
        · exact ⟨_, rfl, hL.yes (fun _ _ _ _ tk h => h.tk tk) nD2 s7 hns (if_pos h1) ⟨Tn, rfl, sqS (hL.1.trans s7) hTn⟩ (by omega)⟩
        · exact hL.no (fun _ _ _ _ tk h => h.tk tk) s7 hns (if_neg h1)
      rintro H5 hL
      obtain ⟨zs, e5, hz5⟩ := hL.done (Nat.le_of_eq hv3.1.symm)
      have emv : (tupsTo cs gs gs.length).filterMap (fun ns => if isVecD cs gs (dI ns) = true then some ns else none) = vecsL cs gs := by
        unfold vecsL
        generalize tupsTo cs gs gs.length = l
        induction l with
        | nil => rfl
        | cons x l ih => by_cases hx : isVecD cs gs (dI x) = true <;> simp [hx, ih]
      rw [emv] at hz5
      refine q _ D2 zs (s03.trans hL.1) e5 hz5 ?_ (by cases e : H D2 with | none => rfl | some o => have := s03 _ _ e; rw [nD2] at this; cases this)
      rw [hz5.1]
      unfold vecsL
      exact Nat.le_trans (List.length_filter_le _ _) (by rw [← hv3.1]; exact l3')
end
end Pv

namespace Pv
open PySem PySem.Spec PyProof.Rows L2
/-! vectors that have begun -/
def edP (cs : List Int) (gs : List Gp) (xs : List Int) (j : Nat) (g : Gp) : Ed := match xs[j]? with | some x => (routeOf cs gs g, x, x) | none => (routeOf cs gs g, 0, g.2)
def esP (cs : List Int) (gs : List Gp) (xs : List Int) : List Ed := gs.mapIdx (edP cs gs xs)
abbrev slkP (cs : List Int) (gs : List Gp) (xs : List Int) : List Int := slk (nzP cs gs) (spOf cs gs) (rCro cs gs) (esP cs gs xs)
abbrev sgnP (cs : List Int) (gs : List Gp) (g : Gp) : List Int := sgn (nzP cs gs) (rCro cs gs) (routeOf cs gs g)
structure Good (cs : List Int) (gs : List Gp) (xs : List Int) : Prop where
  le : xs.length ≤ gs.length
  bd : ∀ (j : Nat) (g : Gp) (x : Int), gs[j]? = some g → xs[j]? = some x → 0 ≤ x ∧ x ≤ g.2
  fe : FeasI cs gs (esP cs gs xs)
section
variable {cs : List Int} {gs : List Gp} {xs : List Int}
theorem esP_get (j : Nat) : (esP cs gs xs)[j]? = gs[j]?.map (edP cs gs xs j) := by unfold esP; rw [List.getElem?_mapIdx]
theorem esP_len : (esP cs gs xs).length = gs.length := by unfold esP; rw [List.length_mapIdx]
theorem esP_nil : esP cs gs [] = es0 cs gs := by
  apply List.ext_getElem?
  intro j
  rw [esP_get]; unfold es0; rw [List.getElem?_map]
  cases gs[j]? <;> simp [edP]
theorem esP_at {g : Gp} (hg : gs[xs.length]? = some g) : (esP cs gs xs)[xs.length]? = some (routeOf cs gs g, 0, g.2) := by
  rw [esP_get, hg]
  simp [edP]
theorem esP_snoc {g : Gp} (hg : gs[xs.length]? = some g) (x : Int) : esP cs gs (xs ++ [x]) = (esP cs gs xs).set xs.length (routeOf cs gs g, x, x) := by
  apply List.ext_getElem?
  intro j
  rw [List.getElem?_set, esP_get, esP_get, esP_len]
  have hl := (List.getElem?_eq_some_iff.mp hg).1
  by_cases e : xs.length = j
  · subst e
    rw [if_pos rfl, if_pos hl, hg]
    simp [edP]
  · rw [if_neg e]
    cases hj : gs[j]? with
    | none => rfl
    | some h =>
      have e2 : (xs ++ [x])[j]? = xs[j]? := by
        rw [List.getElem?_append]
        by_cases hlt : j < xs.length
        · rw [if_pos hlt]
        · rw [if_neg hlt]
          have : j - xs.length ≠ 0 := by omega
          obtain ⟨m, hm⟩ := Nat.exists_eq_succ_of_ne_zero this
          rw [hm, List.getElem?_eq_none (l := xs) (by omega)]
          simp
      simp only [Option.map_some, edP, e2]
theorem slkP_snoc {g : Gp} (hg : gs[xs.length]? = some g) (x : Int) : slkP cs gs (xs ++ [x]) = List.zipWith (fun s t => s - used g.2 x t) (slkP cs gs xs) (sgnP cs gs g) := by
  unfold slkP
  rw [esP_snoc hg]
  exact slk_set (esP_at hg) x
theorem esP_full (h : xs.length = gs.length) : esP cs gs xs = esx cs gs xs := by
  apply List.ext_getElem?
  intro j
  rw [esP_get]; unfold esx; rw [List.getElem?_zipWith]
  cases hj : gs[j]? with
  | none => rfl
  | some g =>
    have hl := (List.getElem?_eq_some_iff.mp hj).1
    have : xs[j]? = some (xs[j]'(by omega)) := List.getElem?_eq_getElem (by omega)
    simp [edP, this]
theorem esP_route {j : Nat} {e : Ed} (he : (esP cs gs xs)[j]? = some e) : ∃ g, gs[j]? = some g ∧ e.1 = routeOf cs gs g ∧ e = edP cs gs xs j g := by
  rw [esP_get] at he
  obtain ⟨g, hg, rfl⟩ := Option.map_eq_some_iff.mp he
  refine ⟨g, hg, ?_, rfl⟩
  unfold edP; split <;> rfl
theorem wf_esP (ok : InsOk cs gs) : Wf (nzP cs gs) (rCro cs gs) (esP cs gs xs) := by
  refine wf_of ok fun e he => ?_
  obtain ⟨j, hj⟩ := List.getElem?_of_mem he
  obtain ⟨g, hg, h1, h2⟩ := esP_route hj
  have hm := List.mem_of_getElem? hg
  refine ⟨?_, g, hm, h1⟩
  have := (ok.gp g hm)
  rw [h2]; unfold edP
  split
  · exact Int.le_refl _
  · show (0 : Int) ≤ g.2
    have W := (wf_es0 ok).lu (routeOf cs gs g, 0, g.2) (List.mem_of_getElem? (es0_at hg))
    exact W
theorem rin_esP (ok : InsOk cs gs) : RIn (nzP cs gs) (esP cs gs xs) := by
  intro e he r hr
  obtain ⟨j, hj⟩ := List.getElem?_of_mem he
  obtain ⟨g, hg, h1, h2⟩ := esP_route hj
  exact rin_es0 ok _ (List.mem_of_getElem? (es0_at hg)) r (by rw [← hr, h1])
theorem Good.take (h : Good cs gs xs) (k : Nat) : Good cs gs (xs.take k) := by
  refine ⟨by rw [List.length_take]; have := h.le; omega, fun j g x hg hx => ?_, ?_⟩
  · rw [List.getElem?_take] at hx
    split at hx
    · exact h.bd j g x hg hx
    · cases hx
  · refine feas_loose h.fe (by rw [esP_len, esP_len]) fun j e f he hf => ?_
    obtain ⟨g, hg, h1, h2⟩ := esP_route he
    obtain ⟨g', hg', h1', h2'⟩ := esP_route hf
    rw [hg] at hg'; cases hg'
    refine ⟨by rw [h1, h1'], ?_⟩
    rw [h2, h2']
    unfold edP
    rw [List.getElem?_take]
    by_cases hk : j < k
    · rw [if_pos hk]; split <;> exact ⟨Int.le_refl _, Int.le_refl _⟩
    · rw [if_neg hk]
      cases hx : xs[j]? with
      | none => exact ⟨Int.le_refl _, Int.le_refl _⟩
      | some x => exact h.bd j g x hg hx
theorem good_nil (h : FeasI cs gs (es0 cs gs)) : Good cs gs [] := ⟨Nat.zero_le _, fun j g x _ hx => by simp at hx, by rw [esP_nil]; exact h⟩
theorem good_vec (ok : InsOk cs gs) (h : xs.length = gs.length) : Good cs gs xs ↔ IsVec cs gs xs := by
  rw [vec_iff ok, ← esP_full h]
  exact ⟨fun g => ⟨h, g.bd, g.fe⟩, fun ⟨_, b, f⟩ => ⟨Nat.le_of_eq h, b, f⟩⟩
theorem range_good (ok : InsOk cs gs) (G : Good cs gs xs) {g : Gp} (hg : gs[xs.length]? = some g) {a b : Int} (ha : IsMax a (0 :: lows (slkP cs gs xs) (sgnP cs gs g) g.2)) (hb : IsMin b (g.2 :: highs (slkP cs gs xs) (sgnP cs gs g))) :
    0 ≤ a ∧ a ≤ b ∧ b ≤ g.2 ∧ ∀ x, Good cs gs (xs ++ [x]) ↔ a ≤ x ∧ x ≤ b := by
  have he := esP_at (cs := cs) hg
  have W := wf_esP (xs := xs) ok
  obtain ⟨⟨a0, ac, oa⟩, ⟨b0, bc, ob⟩, hx⟩ := range_ok W (rin_esP ok) G.fe he ha hb
  have hl := (List.getElem?_eq_some_iff.mp hg).1
  have ab : a ≤ b := ((hx a a0 ac).mp oa).2
  refine ⟨a0, ab, bc, fun x => ⟨fun h => ?_, fun ⟨h1, h2⟩ => ?_⟩⟩
  · have hb := h.bd xs.length g x hg (by simp)
    refine (hx x hb.1 hb.2).mp ((opn_iff W G.fe he x).mp ?_)
    have := h.fe
    rw [esP_snoc hg] at this
    exact this
  · refine ⟨by rw [List.length_append]; simp; omega, fun j g' y hg' hy => ?_, ?_⟩
    · rw [List.getElem?_append] at hy
      split at hy
      · exact G.bd j g' y hg' hy
      · by_cases e : j = xs.length
        · subst e
          simp at hy; subst hy
          rw [hg] at hg'; cases hg'
          omega
        · have : j - xs.length ≠ 0 := by omega
          obtain ⟨m, hm⟩ := Nat.exists_eq_succ_of_ne_zero this
          rw [hm] at hy; simp at hy
    · rw [esP_snoc hg]
      exact (opn_iff W G.fe he x).mpr ((hx x (by omega) (by omega)).mpr ⟨h1, h2⟩)
end
/-! the order of vectors -/
def ltL : List Int → List Int → Prop
  | x :: xs, y :: ys => x < y ∨ (x = y ∧ ltL xs ys)
  | _, _ => False
theorem ltL_snoc : ∀ {xs ys : List Int} {x y : Int}, xs.length = ys.length → (ltL (xs ++ [x]) (ys ++ [y]) ↔ ltL xs ys ∨ (xs = ys ∧ x < y))
  | [], [], x, y, _ => by simp [ltL]
  | a :: xs, b :: ys, x, y, h => by
    have ih := @ltL_snoc xs ys x y (by simpa using h)
    simp only [List.cons_append, ltL, ih, List.cons.injEq]
    clear h ih
    constructor
    · rintro (h | ⟨e, h | ⟨e', h⟩⟩)
      · exact .inl (.inl h)
      · exact .inl (.inr ⟨e, h⟩)
      · exact .inr ⟨⟨e, e'⟩, h⟩
    · rintro ((h | ⟨e, h⟩) | ⟨⟨e, e'⟩, h⟩)
      · exact .inl h
      · exact .inr ⟨e, .inl h⟩
      · exact .inr ⟨e, .inr ⟨e', h⟩⟩
  | [], b :: ys, x, y, h => by simp at h
  | a :: xs, [], x, y, h => by simp at h
theorem ltL_irr : ∀ {xs : List Int}, ¬ ltL xs xs
  | [] => fun h => h
  | x :: xs => fun h => by rcases h with h | ⟨_, h⟩; · omega
                           · exact ltL_irr h
theorem ltL_trans : ∀ {xs ys zs : List Int}, ltL xs ys → ltL ys zs → ltL xs zs
  | x :: xs, y :: ys, z :: zs, h1, h2 => by
    rcases h1 with h1 | ⟨e1, h1⟩ <;> rcases h2 with h2 | ⟨e2, h2⟩
    · exact .inl (by omega)
    · exact .inl (by omega)
    · exact .inl (by omega)
    · exact .inr ⟨by omega, ltL_trans h1 h2⟩
  | [], _, _, h, _ => h.elim
  | _ :: _, [], _, h, _ => h.elim
  | _ :: _, _ :: _, [], _, h => h.elim
theorem ltL_tri : ∀ {xs ys : List Int}, xs.length = ys.length → ltL xs ys ∨ xs = ys ∨ ltL ys xs
  | [], [], _ => .inr (.inl rfl)
  | x :: xs, y :: ys, h => by
    rcases Int.lt_trichotomy x y with h1 | h1 | h1
    · exact .inl (.inl h1)
    · subst h1
      rcases @ltL_tri xs ys (by simpa using h) with h | h | h
      · exact .inl (.inr ⟨rfl, h⟩)
      · subst h; exact .inr (.inl rfl)
      · exact .inr (.inr (.inr ⟨rfl, h⟩))
    · exact .inr (.inr (.inl h1))
  | [], _ :: _, h => by simp at h
  | _ :: _, [], h => by simp at h
def ordE (e : Int) (a b : List Int) : Prop := if e = 0 then (a = b ∨ ltL a b) else (b = a ∨ ltL b a)
theorem ord_step {e : Int} {ys zs : List Int} {v z : Int} (hz : zs[ys.length]? = some z) (h : ordE e ys (zs.take ys.length)) (hv : ys = zs.take ys.length → if e = 0 then v ≤ z else z ≤ v) : ordE e (ys ++ [v]) (zs.take (ys.length + 1)) := by
  have hl := (List.getElem?_eq_some_iff.mp hz).1
  have lt : (zs.take ys.length).length = ys.length := by rw [List.length_take]; omega
  have et : zs.take (ys.length + 1) = zs.take ys.length ++ [z] := by rw [List.take_add_one, hz]; rfl
  rw [et]
  unfold ordE at *
  by_cases he : e = 0
  · rw [if_pos he] at h hv ⊢
    rw [ltL_snoc lt.symm]
    rcases h with h | h
    · have := hv h
      by_cases e2 : v = z
      · left; rw [e2, ← h]
      · right; right; exact ⟨h, by omega⟩
    · exact .inr (.inl h)
  · rw [if_neg he] at h hv ⊢
    rw [ltL_snoc lt]
    rcases h with h | h
    · have := hv h.symm
      by_cases e2 : v = z
      · left; rw [e2, h]
      · right; right; exact ⟨h, by omega⟩
    · exact .inr (.inl h)
/-- the first, the last vector among those that begin so -/
structure ExtOf (cs : List Int) (gs : List Gp) (xs : List Int) (e : Int) (ys : List Int) : Prop where
  len : ys.length = gs.length
  good : Good cs gs ys
  pre : ys.take xs.length = xs
  ord : ∀ zs, Good cs gs zs → zs.length = gs.length → zs.take xs.length = xs → ordE e ys zs
end Pv

namespace Pv
open PySem PySem.Spec PyProof.Rows L2
abbrev sSl : Stmt := topS 26
theorem scSl : FnScope ["slacks", "signs", "count", "number", "used", "slack", "sign"] ["slacks", "signs", "count", "number"] (defScope sSl) := ⟨rfl, rfl, rfl, by decide +kernel, rfl, by decide +kernel, by decide +kernel⟩
theorem usedK {c x t : Int} (h : t = 0 ∨ t = 1 ∨ t = -1) : valV (mergeK [] [((.inl 0 : Key), V.int 0), (.inl 1, .int x), (.inl (-1), .int (c - x))]) (.inl t) = some (.int (used c x t)) := by
  rcases h with rfl | rfl | rfl <;> simp [mergeK, putK, valV, used]
theorem noneB {H H' : Hp} {a : Addr} (s : Same H H') (h : H' a = none) : H a = none := by
  cases e : H a with
  | none => rfl
  | some o => rw [s _ _ e] at h; cases h
theorem sg_three {N C : List Int} {r : Rt} : ∀ t ∈ sgn N C r, t = 0 ∨ t = 1 ∨ t = -1 := by
  intro t ht
  unfold sgn at ht
  rcases List.mem_cons.mp ht with rfl | ht
  · cases r <;> simp [zSg]
  rcases List.mem_append.mp ht with ht | ht
  · obtain ⟨p, _, rfl⟩ := List.mem_map.mp ht
    cases r with
    | none => simp [stSg]
    | some q => simp only [stSg]; split <;> simp
  · obtain ⟨s, _, rfl⟩ := List.mem_map.mp ht
    cases r with
    | none => simp [sg]
    | some q => simp only [sg]; cases inb (mem s) q.2 <;> cases mem s q.1 <;> simp
section
variable {P : Program} {w : World} {K : PySem.W.Frag} {mg : Str → Option Value} {base : Heap}
def spSl (K : PySem.W.Frag) : Sp := fun vs H Q _ => ∃ (sl sn : Addr) (sls sgs : List Int) (c x : Int), vs = [.ref sl, .ref sn, .int c, .int x] ∧ H sl = some (.lst (sls.map V.int)) ∧ SqT K H sn (sgs.map V.int) ∧ sls.length ≤ 999 ∧ (∀ t ∈ sgs, t = 0 ∨ t = 1 ∨ t = -1) ∧ ∀ (H' : Hp) (p : Addr), Same H H' → H p = none → H' p = some (.lst ((List.zipWith (fun s t => s - used c x t) sls sgs).map V.int)) → Q (.ref p) H'
set_option maxHeartbeats 4000000 in
theorem ok_Sl {f : Addr} {fd : FuncData} (F : Fun K "slacks_left" "slacks_left" sSl f fd)
    (m_zip : mg "zip" = none) :
    FnOk P w K mg base CX0 1 f fd ["slacks", "signs", "count", "number"] (spSl K) := by
  refine F.ok scSl (fun vs H Q E h => ?_) (fun cdv A outer s H vs Q E hr h => ?_)
  · obtain ⟨sl, sn, sls, sgs, c, x, rfl, _⟩ := h; rfl
  · obtain ⟨sl, sn, sls, sgs, c, x, rfl, hS, hG, hl, h3, q⟩ := h
    have hu64 : (A.deeper (envOfC "slacks_left" (defScope sSl) s.heap.objs.size f cdv)).units + 64 < cLine := by have := hr.un; omega
    refine ⟨_, pss_cons (ps_set (i := 4) scSl.nd rfl (.inr rfl) (pe_disp (pps_cons (pe_int) (pe_int) (pps_cons (pe_int) (pv 3) (pps_cons (pe_un un_neg (pe_int)) (pe_op op_sub (pv 2) (pv 3)) (pps_nil)))) rfl rfl (by simp) (by decide)))
      (pss_one (ps_ret (pe_lc (own := [("slack", 5), ("sign", 6)]) (g := gTup K 2 (gCons (gName 5) (gCons (gName 6) gNil))) (tt := tYes) (te := tOp (rI0 fun i j => .int (i - j)) (tVar 5) (tDGet (tVar 4) (tVar 6))) rfl scSl.nd (pi_zipM (by rfl) m_zip (pa_cons (pv 0) (pa_cons (pv 1) pa_nil))) (blkOk_by (N := ["slacks", "signs", "count", "number", "used", "slack", "sign"]) (sc := defScope sSl) (by decide +kernel)) (fun _ _ _ _ _ => pg_tup rfl (pgs_cons (pg_name (i := 5) scSl.nd rfl (.inl rfl)) (pgs_cons (pg_name (i := 6) scSl.nd rfl (.inl rfl)) pgs_nil))) (fun _ _ _ _ _ => pts_nil) (fun _ _ _ _ _ => pe_op op_sub (pv 5) (pe_dget (Nat.lt_of_le_of_lt (Nat.add_le_add_left (by decide) _) hu64) (pv 4) (pv 6) (fun _ _ => rfl)))))), ?_⟩
    intro D0 nD0
    refine ⟨.int x, rfl, 1, rfl, .int c, rfl, .int x, rfl, _, _, rfl, rfl, upd_same, [((.inl 0 : Key), V.int 0), (.inl 1, .int x), (.inl (-1), .int (c - x))], rfl, (show (3 : Nat) ≤ 15 by decide), ?_⟩
    have s0 : Same H (upd (upd H D0 (.dK [])) D0 (.dK (mergeK [] [(.inl 0, .int 0), (.inl 1, .int x), (.inl (-1), .int (c - x))]))) := samePut (sameNew nD0) nD0
    have eD : (upd (upd H D0 (.dK [])) D0 (.dK (mergeK [] [(.inl 0, .int 0), (.inl 1, .int x), (.inl (-1), .int (c - x))]))) D0 = some (.dK (mergeK [] [(.inl 0, .int 0), (.inl 1, .int x), (.inl (-1), .int (c - x))])) := upd_same
    generalize upd (upd H D0 (.dK [])) D0 (.dK (mergeK [] [(.inl 0, .int 0), (.inl 1, .int x), (.inl (-1), .int (c - x))])) = H1 at s0 eD
    refine ⟨.ref sl, rfl, .ref sn, rfl, sl, sn, _, _, rfl, SqL.of (s0 _ _ hS), sqS s0 hG, fun D nD => lc_it (walk_zipM (K := K) (a := sl) (b := sn) (xs := sls.map V.int) (ys := sgs.map V.int) rfl)
      (LcP _ D (sls.zip sgs) (fun z => some (.int (z.1 - used c x z.2)))) (.start nD) (fun j H2 _ h => ⟨SqL.of ((s0.trans h.1) _ _ hS), sqS (s0.trans h.1) hG⟩) ?_ ?_⟩
    · rintro j v H2 H3 hlt hL ⟨T, x1, y1, rfl, nT, rfl, ex, ey⟩
      rw [List.length_map, List.length_map] at hlt
      have hj1 : j < sls.length := by omega
      have hj2 : j < sgs.length := by omega
      have ex : (sls.map V.int)[j]? = some x1 := ex
      have ey : (sgs.map V.int)[j]? = some y1 := ey
      rw [atS hj1] at ex
      rw [atS hj2] at ey
      cases ex
      cases ey
      have hz : (sls.zip sgs)[j]? = some (sls[j], sgs[j]) := by rw [List.getElem?_zip_eq_some]; exact ⟨List.getElem?_eq_getElem hj1, List.getElem?_eq_getElem hj2⟩
      refine ⟨T, _, rfl, SqT.of upd_same, rfl, _, _, rfl, _, _, rfl, rfl, rfl, .int sls[j], rfl, .ref D0, rfl, .int sgs[j], rfl, D0, .int (used c x sgs[j]), rfl, .inl ⟨_, .inl sgs[j], .inl ((hL.1.trans (sameNew nT)) _ _ eD), rfl, (usedK (h3 _ (List.getElem_mem _))).symm⟩, _, _, rfl, rfl, hL.yes nD (sameNew nT) hz rfl (by omega)⟩
    rintro H2 hL
    have e2 := hL.done (by rw [List.length_zip, List.length_map, List.length_map]; exact Nat.le_refl _)
    rw [fm_mapI, show (sls.zip sgs).map (fun z => z.1 - used c x z.2) = List.zipWith (fun s t => s - used c x t) sls sgs by rw [List.zip, List.map_zipWith]] at e2
    exact q _ D (s0.trans hL.1) (noneB s0 nD) e2
end
end Pv

namespace Pv
open PySem PySem.Spec PyProof.Rows L2
abbrev sEv : Stmt := topS 38
theorem scEv : FnScope ["instance", "begun", "slacks", "signs", "end", "vector", "group", "count", "number"] ["instance", "begun", "slacks", "signs", "end"] (defScope sEv) := ⟨rfl, rfl, rfl, by decide +kernel, rfl, by decide +kernel, by decide +kernel⟩
theorem subs_len (ps : List Int) : (subsL ps).length = 2 ^ ps.length := by
  have : ∀ l : List Int, (subsL l.reverse).length = 2 ^ l.length := by
    intro l
    induction l with
    | nil => rfl
    | cons x l ih => rw [List.reverse_cons, subsL_snoc, List.length_append, List.length_map, ih, List.length_cons, Nat.pow_succ]; omega
  have := this ps.reverse
  rwa [List.reverse_reverse, List.length_reverse] at this
theorem nz_len (cs : List Int) (gs : List Gp) : (nzP cs gs).length ≤ cs.length := by
  unfold nzP
  exact Nat.le_trans (List.length_filter_le _ _) (by rw [List.length_map, List.length_range]; exact Nat.le_refl _)
theorem slk_len {cs : List Int} {gs : List Gp} (ok : InsOk cs gs) {es : List Ed} : (slk (nzP cs gs) (spOf cs gs) (rCro cs gs) es).length ≤ 999 := by
  unfold slk
  rw [List.length_cons, List.length_append, List.length_map, List.length_map, subs_len]
  have h1 : (rCro cs gs).length ≤ cs.length := by unfold rCro; exact sel_len _ _ _
  have h2 : 2 ^ (nzP cs gs).length ≤ 2 ^ 6 := Nat.pow_le_pow_right (by decide) (Nat.le_trans (nz_len cs gs) ok.c6)
  have := ok.c6
  omega
section
variable {P : Program} {w : World} {K : PySem.W.Frag} {mg : Str → Option Value} {base : Heap}
def spEv (K : PySem.W.Frag) : Sp := fun vs H Q _ => ∃ (i bg sl sn : Addr) (cs : List Int) (gs : List Gp) (xs : List Int) (ts : List V) (e : Int), vs = [.ref i, .ref bg, .ref sl, .ref sn, .int e] ∧ Dp K H (.ref i) (dInst cs gs) ∧ InsOk cs gs ∧ SqT K H bg (xs.map V.int) ∧ H sl = some (.lst ((slkP cs gs xs).map V.int)) ∧ H sn = some (.lst ts) ∧ Rl (TuV K H) ts (gs.map (sgnP cs gs)) ∧ Good cs gs xs ∧ (e = 0 ∨ e = 1) ∧
  ∀ (H' : Hp) (T : Addr) (ys : List Int), Same H H' → SqT K H' T (ys.map V.int) → ExtOf cs gs xs e ys → Q (.ref T) H'
set_option maxHeartbeats 4000000 in
theorem ok_Ev {f fOr fSl : Addr} {fd fdOr fdSl : FuncData} (F : Fun K "extreme_vector" "extreme_vector" sEv f fd)
    (FOr : Fun K "open_range" "open_range" sOr fOr fdOr) (bOr : Binds K fdOr ["slacks", "signs", "count"] []) (gOr : mg "open_range" = some (.ref fOr)) (GOr : FnOk P w K mg base CX0 1 fOr fdOr ["slacks", "signs", "count"] (spOr K))
    (FSl : Fun K "slacks_left" "slacks_left" sSl fSl fdSl) (bSl : Binds K fdSl ["slacks", "signs", "count", "number"] []) (gSl : mg "slacks_left" = some (.ref fSl)) (GSl : FnOk P w K mg base CX0 1 fSl fdSl ["slacks", "signs", "count", "number"] (spSl K))
    (m_list : mg "list" = none) (m_len : mg "len" = none) (m_range : mg "range" = none) (m_tuple : mg "tuple" = none) :
    FnOk P w K mg base CX0 2 f fd ["instance", "begun", "slacks", "signs", "end"] (spEv K) := by
  refine F.ok scEv (fun vs H Q E h => ?_) (fun cdv A outer s H vs Q E hr h => ?_)
  · obtain ⟨i, bg, sl, sn, cs, gs, xs, ts, e, rfl, _⟩ := h; rfl
  · obtain ⟨i, bg, sl, sn, cs, gs, xs, ts, e, rfl, hI, ok, hB, hS, hN, hT, hGd, he, q⟩ := h
    refine ⟨_, pss_cons (ps_set (i := 5) scEv.nd rfl (.inl rfl) (pe_callTy call_list_of (by rfl) m_list (by decide +kernel) (pa_cons (pv 1) pa_nil)))
      (pss_cons (ps_for PassesOwn.never rfl (pi_range2 (by rfl) m_range (pa_cons (pe_callB call_lenQ (by rfl) m_len PySem.boot_len (pa_cons (pv 1) pa_nil)) (pa_cons (pe_callB call_lenQ (by rfl) m_len PySem.boot_len (pa_cons (pv 3) pa_nil)) pa_nil))) (pg_name (i := 6) scEv.nd rfl (.inl rfl))
        (pss_cons (ps_set (i := 7) scEv.nd rfl (.inl rfl) (pe_ix ix_tup (pe_ix ix_tup (pe_ix ix_tup (pv 0) (pe_int) (fun _ _ => rfl)) (pv 6) (fun _ _ => rfl)) (pe_int) (fun _ _ => rfl)))
        (pss_cons (ps_set (i := 8) scEv.nd rfl (.inl rfl) (pe_ix ix_tup (pe_call GOr (hr.mono (by omega)) (by rfl) gOr FOr.kp bOr .nil pass0 (pa_cons (pv 2) (pa_cons (pe_ix ix_list (pv 3) (pv 6) (fun _ _ => rfl)) (pa_cons (pv 7) pa_nil)))) (pv 4) (fun _ _ => rfl)))
        (pss_cons (ps_set (i := 2) scEv.nd rfl (.inl rfl) (pe_call GSl (hr.mono (by omega)) (by rfl) gSl FSl.kp bSl .nil pass0 (pa_cons (pv 2) (pa_cons (pe_ix ix_list (pv 3) (pv 6) (fun _ _ => rfl)) (pa_cons (pv 7) (pa_cons (pv 8) pa_nil))))))
        (pss_one (ps_expr (pe_bm PySem.F.plainAttrs_list PySem.F.slot_list_append PySem.F.type_list_append mt_append (pv 5) (pa_cons (pv 8) pa_nil))))))))
      (pss_one (ps_ret (pe_callTy call_tupQ (by rfl) m_tuple (by decide +kernel) (pa_cons (pv 5) pa_nil))))), ?_⟩
    obtain ⟨_, ca, ga, xv, e1, hi, hc, hgt, hgs⟩ := inst_open hI
    cases e1
    have h10 := ok.g10
    have hxl := hGd.le
    have lts : ts.length = gs.length := by rw [hT.1, List.length_map]
    refine ⟨.ref bg, rfl, bg, _, rfl, .inr hB, fun V0 nV => ?_⟩
    have sV := sameNew (o := .lst (xs.map V.int)) nV
    refine ⟨.ref bg, rfl, bg, _, rfl, .inr (sqS sV hB), .ref sn, rfl, sn, _, rfl, .inl (SqL.of (sV _ _ hN)), _, _, rfl, by rw [List.length_map]; omega, ?_⟩
    rw [List.length_map]
    have hn : ((ts.length : Nat) - (xs.length : Nat) : Int).toNat = gs.length - xs.length := by omega
    rw [hn]
    refine for_it (walk_range (lo := (xs.length : Nat)) (n := gs.length - xs.length))
      (fun k σ H2 => ∃ (y6 y7 y8 : Option V) (sl2 : Addr) (ys : List Int), σ = [some (.ref i), some (.ref bg), some (.ref sl2), some (.ref sn), some (.int e), some (.ref V0), y6, y7, y8] ∧ Same H H2 ∧ H2 V0 = some (.lst (ys.map V.int)) ∧ sl2 ≠ V0 ∧ H2 sl2 = some (.lst ((slkP cs gs ys).map V.int)) ∧ ys.length = xs.length + k ∧ Good cs gs ys ∧ ys.take xs.length = xs ∧ ∀ zs, Good cs gs zs → zs.length = gs.length → zs.take xs.length = xs → ordE e ys (zs.take ys.length))
      ⟨none, none, none, sl, xs, rfl, sV, upd_same, (fun z => by rw [z] at hS; rw [hS] at nV; cases nV), sV _ _ hS, by omega, hGd, List.take_of_length_le (Nat.le_refl _), fun zs _ _ hz => by rw [hz]; unfold ordE; split <;> exact .inl rfl⟩ (fun _ _ _ _ _ => trivial) ?_ ?_
    · rintro k v σ H2 H3 hlt ⟨y6, y7, y8, sl2, ys, rfl, s2, eV, nS, eS, hyl, hG, hpre, hord⟩ ⟨rfl, rfl⟩
      have hg : gs[ys.length]? = some (gs[ys.length]'(by omega)) := List.getElem?_eq_getElem (by omega)
      generalize gs[ys.length]'(by omega) = g at hg
      have e0 : ((xs.length : Nat) : Int) + (k : Nat) = ((ys.length : Nat) : Int) := by omega
      dsimp only
      rw [e0]
      obtain ⟨gA, pA, hx, hGA, hP⟩ := grp_at hgs hg
      obtain ⟨sgl, hsg, Tj, hTj, hTq⟩ := hT.at (List.getElem?_eq_getElem (show ys.length < ts.length by omega))
      rw [List.getElem?_map, hg] at hsg
      cases hsg
      have hat : ts[ys.length]? = some (.ref Tj) := by rw [List.getElem?_eq_getElem (by omega), hTj]
      refine ⟨.ref i, rfl, i, _, 1, .ref ga, rfl, rfl, sqS s2 hi, atI_nat (j := 1) rfl, .int (ys.length : Nat), rfl, ga, _, _, _, rfl, rfl, sqS s2 hgt, atI_nat hx, gA, _, 1, .int g.2, rfl, rfl, sqS s2 hGA, atI_nat (j := 1) rfl, ?_⟩
      refine ⟨.ref sl2, rfl, .ref sn, rfl, .int (ys.length : Nat), rfl, sn, _, _, _, rfl, rfl, SqL.of (s2 _ _ hN), atI_nat hat, .int g.2, rfl, sl2, Tj, _, _, _, rfl, eS, sqS s2 hTq, slk_len ok, fun H4 T a b ha hb s4 eT => ?_⟩
      obtain ⟨a0, ab, bg', hrg⟩ := range_good ok hG hg ha hb
      have s24 := s2.trans s4
      -- the one that is chosen
      obtain ⟨x, m, hm, hxm, hgx, hle⟩ : ∃ (x : Int) (m : Nat), e = (m : Nat) ∧ [V.int a, V.int b][m]? = some (.int x) ∧ Good cs gs (ys ++ [x]) ∧ ∀ z, Good cs gs (ys ++ [z]) → if e = 0 then x ≤ z else z ≤ x := by
        rcases he with rfl | rfl
        · exact ⟨a, 0, rfl, rfl, (hrg a).mpr ⟨Int.le_refl _, ab⟩, fun z hz => by rw [if_pos rfl]; exact ((hrg z).mp hz).1⟩
        · exact ⟨b, 1, rfl, rfl, (hrg b).mpr ⟨ab, Int.le_refl _⟩, fun z hz => by rw [if_neg (by decide)]; exact ((hrg z).mp hz).2⟩
      refine ⟨.int e, rfl, T, _, e, .int x, rfl, rfl, SqT.of eT, by rw [hm]; exact atI_nat hxm, ?_⟩
      refine ⟨.ref sl2, rfl, .ref sn, rfl, .int (ys.length : Nat), rfl, sn, _, _, _, rfl, rfl, SqL.of (s24 _ _ hN), atI_nat hat, .int g.2, rfl, .int x, rfl, sl2, Tj, _, _, _, _, rfl, s4 _ _ eS, sqS s24 hTq, slk_len ok, sg_three, fun H5 p s5 np eP => ?_⟩
      rw [← slkP_snoc hg x] at eP
      have eV5 := (s4.trans s5) _ _ eV
      have nPV : p ≠ V0 := fun z => by rw [z, s4 _ _ eV] at np; cases np
      refine ⟨.ref V0, rfl, .inl ⟨rfl, _, SqL.of eV5⟩, .int x, rfl, V0, _, _, rfl, rfl, eV5, by rw [List.length_map]; exact small (by omega), _, _, _, p, ys ++ [x], rfl, samePut (s24.trans s5) nV, by rw [upd_same, List.map_append]; rfl, nPV, by rw [upd_ne nPV]; exact eP, by rw [List.length_append]; simp; omega, hgx, ?_, fun zs h1 h2 h3 => ?_⟩
      · rw [List.take_append_of_le_length (by omega)]; exact hpre
      · have hz : zs[ys.length]? = some (zs[ys.length]'(by omega)) := List.getElem?_eq_getElem (by omega)
        have := ord_step hz (hord zs h1 h2 h3) (v := x) fun hy => by
          refine hle _ ?_
          have := h1.take (ys.length + 1)
          rwa [List.take_add_one, hz, ← hy] at this
        rwa [show (ys ++ [x]).length = ys.length + 1 by simp]
    rintro σ H2 ⟨y6, y7, y8, sl2, ys, rfl, s2, eV, nS, eS, hyl, hG, hpre, hord⟩
    refine ⟨.ref V0, rfl, V0, _, rfl, .inl ⟨SqL.of eV, fun T nT => ?_⟩⟩
    refine q _ T ys (s2.trans (sameNew nT)) (SqT.of upd_same) ⟨by omega, hG, hpre, fun zs h1 h2 h3 => ?_⟩
    have := hord zs h1 h2 h3
    rwa [List.take_of_length_le (by omega)] at this
end
end Pv

namespace Pv
open PySem PySem.Spec PyProof.Rows L2
abbrev sFv : Stmt := topS 36
theorem scFv : FnScope ["instance", "slacks", "signs"] ["instance"] (defScope sFv) := ⟨rfl, rfl, rfl, by decide +kernel, rfl, by decide +kernel, by decide +kernel⟩
abbrev sLsv : Stmt := topS 37
theorem scLsv : FnScope ["instance", "slacks", "signs"] ["instance"] (defScope sLsv) := ⟨rfl, rfl, rfl, by decide +kernel, rfl, by decide +kernel, by decide +kernel⟩
section
variable {P : Program} {w : World} {K : PySem.W.Frag} {mg : Str → Option Value} {base : Heap}
def spEx (K : PySem.W.Frag) (C : Addr) (e : Int) : Sp := fun vs H Q E => ∃ (i : Addr) (cs : List Int) (gs : List Gp), vs = [.ref i] ∧ Dp K H (.ref i) (dInst cs gs) ∧ InsOk cs gs ∧
  (FeasI cs gs (es0 cs gs) → ∀ (H' : Hp) (T : Addr) (ys : List Int), Same H H' → SqT K H' T (ys.map V.int) → ExtOf cs gs [] e ys → Q (.ref T) H') ∧
  (∀ ss ∈ subsL (nzP cs gs), FS (nzP cs gs) (spOf cs gs) (mem ss) (es0 cs gs) < 0 → ∀ H' d ca ra, Same H H' → H' d = none → TuV K H' (.ref ca) (ss.filter fun p => decide (spOf cs gs p < 0)) → TuV K H' (.ref ra) (ss.filter fun p => decide (0 < spOf cs gs p)) → E (.ref C) (some d) (upd H' d (.xd [("reserves", .ref ra), ("crowded", .ref ca)])))
set_option maxHeartbeats 4000000 in
theorem ok_Fv {f fFc fEv : Addr} {fd fdFc fdEv : FuncData} (F : Fun K "first_vector" "first_vector" sFv f fd)
    (FFc : Fun K "find_cuts" "find_cuts" sFc fFc fdFc) (bFc : Binds K fdFc ["instance"] []) (gFc : mg "find_cuts" = some (.ref fFc)) (GFc : FnOk P w K mg base (CX P w) 6 fFc fdFc ["instance"] (spFc K cNU))
    (FEv : Fun K "extreme_vector" "extreme_vector" sEv fEv fdEv) (bEv : Binds K fdEv ["instance", "begun", "slacks", "signs", "end"] []) (gEv : mg "extreme_vector" = some (.ref fEv)) (GEv : FnOk P w K mg base CX0 2 fEv fdEv ["instance", "begun", "slacks", "signs", "end"] (spEv K))
     :
    FnOk P w K mg base (L2.CX P w) 7 f fd ["instance"] (spEx K cNU 0) := by
  refine F.okX scFv (fun vs H Q E h => ?_) (fun cdv A outer s H vs Q E hr h => ?_)
  · obtain ⟨i, cs, gs, rfl, _⟩ := h; rfl
  · obtain ⟨i, cs, gs, rfl, hI, ok, q⟩ := h
    refine ⟨_, pss_cons (ps_asg (pe_callS GFc (hr.mono (by omega)) rfl gFc FFc.kp bFc (fun σ => passAt (takes_of rfl rfl rfl rfl) σ) (pa_cons (pv 0) pa_nil)) (pg_tup rfl (pgs_cons (pg_name (i := 1) scFv.nd rfl (.inl rfl)) (pgs_cons (pg_name (i := 2) scFv.nd rfl (.inl rfl)) pgs_nil))))
      (pss_one (ps_ret (pe_call GEv (hr.mono (by omega)) (by rfl) gEv FEv.kp bEv .nil pass0 (pa_cons (pv 0) (pa_cons (pe_tup (pa_nil)) (pa_cons (pv 1) (pa_cons (pv 2) (pa_cons (pe_int) pa_nil)))))))), ?_⟩
    obtain ⟨q1, q2⟩ := q
    refine ⟨.ref i, rfl, i, cs, gs, rfl, hI, ok, fun Fe H1 T sl sn ts s1 hT eSl eSn hts => ⟨T, _, rfl, hT, rfl, _, _, rfl, _, _, rfl, rfl, ?_⟩, fun ss hm hneg H1 d ca ra s1 nd h1 h2 => q2 ss hm hneg H1 d ca ra s1 nd h1 h2⟩
    refine ⟨.ref i, rfl, (show (0 : Nat) ≤ sizeLine by decide), fun B0 nB => ?_⟩
    have sB := sameNew (o := .tup []) nB
    refine ⟨.ref sl, rfl, .ref sn, rfl, i, B0, sl, sn, cs, gs, [], ts, 0, rfl, (TupK.of (s1.trans sB)).dp _ _ (to_dInst _ _) hI, ok, SqT.of upd_same, ?_, sB _ _ eSn, hts.mono fun v l h => h.tk (TupK.of sB), good_nil Fe, .inl rfl, fun H2 T2 ys s2 hT2 hx => q1 Fe H2 T2 ys (s1.trans (sB.trans s2)) hT2 hx⟩
    have := sB _ _ eSl
    rwa [← esP_nil] at this
set_option maxHeartbeats 4000000 in
theorem ok_Lsv {f fFc fEv : Addr} {fd fdFc fdEv : FuncData} (F : Fun K "last_vector" "last_vector" sLsv f fd)
    (FFc : Fun K "find_cuts" "find_cuts" sFc fFc fdFc) (bFc : Binds K fdFc ["instance"] []) (gFc : mg "find_cuts" = some (.ref fFc)) (GFc : FnOk P w K mg base (CX P w) 6 fFc fdFc ["instance"] (spFc K cNU))
    (FEv : Fun K "extreme_vector" "extreme_vector" sEv fEv fdEv) (bEv : Binds K fdEv ["instance", "begun", "slacks", "signs", "end"] []) (gEv : mg "extreme_vector" = some (.ref fEv)) (GEv : FnOk P w K mg base CX0 2 fEv fdEv ["instance", "begun", "slacks", "signs", "end"] (spEv K))
     :
    FnOk P w K mg base (L2.CX P w) 7 f fd ["instance"] (spEx K cNU 1) := by
  refine F.okX scLsv (fun vs H Q E h => ?_) (fun cdv A outer s H vs Q E hr h => ?_)
  · obtain ⟨i, cs, gs, rfl, _⟩ := h; rfl
  · obtain ⟨i, cs, gs, rfl, hI, ok, q⟩ := h
    refine ⟨_, pss_cons (ps_asg (pe_callS GFc (hr.mono (by omega)) rfl gFc FFc.kp bFc (fun σ => passAt (takes_of rfl rfl rfl rfl) σ) (pa_cons (pv 0) pa_nil)) (pg_tup rfl (pgs_cons (pg_name (i := 1) scLsv.nd rfl (.inl rfl)) (pgs_cons (pg_name (i := 2) scLsv.nd rfl (.inl rfl)) pgs_nil))))
      (pss_one (ps_ret (pe_call GEv (hr.mono (by omega)) (by rfl) gEv FEv.kp bEv .nil pass0 (pa_cons (pv 0) (pa_cons (pe_tup (pa_nil)) (pa_cons (pv 1) (pa_cons (pv 2) (pa_cons (pe_int) pa_nil)))))))), ?_⟩
    obtain ⟨q1, q2⟩ := q
    refine ⟨.ref i, rfl, i, cs, gs, rfl, hI, ok, fun Fe H1 T sl sn ts s1 hT eSl eSn hts => ⟨T, _, rfl, hT, rfl, _, _, rfl, _, _, rfl, rfl, ?_⟩, fun ss hm hneg H1 d ca ra s1 nd h1 h2 => q2 ss hm hneg H1 d ca ra s1 nd h1 h2⟩
    refine ⟨.ref i, rfl, (show (0 : Nat) ≤ sizeLine by decide), fun B0 nB => ?_⟩
    have sB := sameNew (o := .tup []) nB
    refine ⟨.ref sl, rfl, .ref sn, rfl, i, B0, sl, sn, cs, gs, [], ts, 1, rfl, (TupK.of (s1.trans sB)).dp _ _ (to_dInst _ _) hI, ok, SqT.of upd_same, ?_, sB _ _ eSn, hts.mono fun v l h => h.tk (TupK.of sB), good_nil Fe, .inr rfl, fun H2 T2 ys s2 hT2 hx => q1 Fe H2 T2 ys (s1.trans (sB.trans s2)) hT2 hx⟩
    have := sB _ _ eSl
    rwa [← esP_nil] at this
end
end Pv

namespace Pv
open PySem PySem.Spec PyProof.Rows L2
/-! vectors and assignments -/
theorem zip_self_map {α β γ : Type} (f : α × β → γ) : ∀ (as : List α) (bs : List β), as.length = bs.length → as.zip ((as.zip bs).map f) = (as.zip bs).map (fun z => (z.1, f z))
  | [], [], _ => rfl
  | a :: as, b :: bs, h => by
    have ih := zip_self_map f as bs (by simpa using h)
    simp [ih]
  | [], _ :: _, h => by simp at h
  | _ :: _, [], h => by simp at h
theorem zip_fst {α β : Type} : ∀ {as : List α} {bs : List β}, as.length = bs.length → (as.zip bs).map (fun z => z.1) = as
  | [], [], _ => rfl
  | a :: as, b :: bs, h => by
    have ih := zip_fst (as := as) (bs := bs) (by simpa using h)
    simp [ih]
  | [], _ :: _, h => by simp at h
  | _ :: _, [], h => by simp at h
theorem zip_snd {α β : Type} : ∀ {as : List α} {bs : List β}, as.length = bs.length → (as.zip bs).map (fun z => z.2) = bs
  | [], [], _ => rfl
  | a :: as, b :: bs, h => by
    have ih := zip_snd (as := as) (bs := bs) (by simpa using h)
    simp [ih]
  | [], _ :: _, h => by simp at h
  | _ :: _, [], h => by simp at h
def mn (a b : Int) : Int := if b < a then b else a
def headC (q : Int) (g : Gp) : Int := match g.1 with | [] => 0 | p :: _ => if p = q then g.2 else 0
theorem dem_fold {n : Nat} : ∀ (gs : List Gp) (l : List Int), l.length = n → (∀ g ∈ gs, ∀ p ∈ g.1, 0 ≤ p ∧ p < (n : Int)) → ∀ q : Nat, (gs.foldl dAdd l).getD q 0 = l.getD q 0 + (gs.map (headC q)).sum
  | [], l, _, _, q => by simp
  | g :: gs, l, hl, h, q => by
    have ih := dem_fold gs (dAdd l g) (by rw [dAdd_len]; exact hl) (fun g' hg' => h g' (List.mem_cons_of_mem _ hg')) q
    rw [List.foldl_cons, ih, List.map_cons, List.sum_cons]
    have : (dAdd l g).getD q 0 = l.getD q 0 + headC q g := by
      unfold dAdd headC
      cases e : g.1 with
      | nil => simp
      | cons p ps =>
        have hp := h g List.mem_cons_self p (by rw [e]; exact List.mem_cons_self)
        obtain ⟨m, rfl⟩ : ∃ m : Nat, p = (m : Int) := ⟨p.toNat, by omega⟩
        have := addAt_get (ls := l) (p := m) (q := q) (x := g.2) (by omega)
        simp only
        rw [this]
        congr 1
        by_cases e2 : m = q
        · rw [if_pos e2, if_pos (by omega)]
        · rw [if_neg e2, if_neg (by omega)]
    rw [this]; omega
theorem dem_get {n : Nat} {gs : List Gp} (h : ∀ g ∈ gs, ∀ p ∈ g.1, 0 ≤ p ∧ p < (n : Int)) (q : Nat) : (demOf n gs).getD q 0 = (gs.map (headC q)).sum := by
  unfold demOf
  rw [dem_fold gs (zeros n) (by simp [zeros]) h q]
  have : (zeros n).getD q 0 = 0 := by
    unfold zeros
    rw [List.getD_eq_getElem?_getD, List.getElem?_replicate]
    split <;> rfl
  omega
section
variable {cs : List Int} {gs : List Gp} {xs : List Int} {rows : List (List Int)}
def resC (cs : List Int) (gs : List Gp) (g : Gp) : Nat := resOf g.1 (rCla cs gs)
def rowV (g : Gp) (r : Nat) (x : Int) : List Int := addAt ((zeros (g.1.length + 1)).set 0 (g.2 - x)) (r : Int) x
def asOf (cs : List Int) (gs : List Gp) (xs : List Int) : List (List Int) := (gs.zip xs).map fun z => rowV z.1 (resC cs gs z.1) z.2
def xOf (cs : List Int) (gs : List Gp) (z : Gp × List Int) : Int := match routeOf cs gs z.1 with | none => 0 | some _ => z.2.getD (resC cs gs z.1) 0
def vecOf (cs : List Int) (gs : List Gp) (rows : List (List Int)) : List Int := (gs.zip rows).map (xOf cs gs)
def onlyB (cs : List Int) (gs : List Gp) (zs : List (Gp × List Int)) : Bool := zs.all fun z => (List.range z.2.length).all fun k => decide (k = 0 ∨ k = resC cs gs z.1) || !decide (0 < z.2.getD k 0)
def servedOf (n : Nat) (zs : List (Gp × List Int)) : List Int := demOf n (zs.map fun z => ((z.1.1, z.2.getD 0 0) : Gp))
def metOf (cs : List Int) (gs : List Gp) : List Int := (cs.zip (rDem cs gs)).map fun z => mn z.1 z.2
def unbB (cs : List Int) (gs : List Gp) (rows : List (List Int)) : Bool := onlyB cs gs (gs.zip rows) && decide (servedOf cs.length (gs.zip rows) = metOf cs gs)
def Shp (gs : List Gp) (rows : List (List Int)) : Prop := rows.length = gs.length ∧ ∀ z ∈ gs.zip rows, z.2.length = z.1.1.length + 1
theorem resC_le (g : Gp) : resC cs gs g ≤ g.1.length := resOf_le ..
theorem resC_pos {g : Gp} (h : g.1 ≠ []) : 1 ≤ resC cs gs g := by
  unfold resC resOf
  cases e : (List.range' 1 (g.1.length - 1)).find? (isFree g.1 (rCla cs gs)) with
  | none => have : g.1.length ≠ 0 := fun z => h (List.length_eq_zero_iff.mp z); simp; omega
  | some k =>
    have := List.mem_of_find?_eq_some e
    rw [List.mem_range'] at this
    obtain ⟨i, _, rfl⟩ := this
    simp
theorem rowV_len (g : Gp) (r : Nat) (x : Int) : (rowV g r x).length = g.1.length + 1 := by unfold rowV; rw [addAt_len]; simp [zeros]
theorem rowV_get {g : Gp} {r : Nat} {x : Int} (hr : r ≤ g.1.length) (k : Nat) : (rowV g r x).getD k 0 = (if k = 0 then g.2 - x else 0) + (if r = k then x else 0) := by
  unfold rowV
  rw [addAt_get (by simp [zeros]; omega)]
  congr 1
  rw [List.getD_eq_getElem?_getD, List.getElem?_set]
  by_cases e : k = 0
  · subst e; simp [zeros]
  · rw [if_neg (fun z => e z.symm), if_neg e]
    unfold zeros
    rw [List.getElem?_replicate]
    split <;> rfl
theorem meets_sums (ok : InsOk cs gs) : meetsD cs gs xs = true ↔ (∀ z ∈ zsOf cs gs xs, z.1 = none → z.2 = 0) ∧ (∀ q (h : q < cs.length), ((zsOf cs gs xs).map (movP q)).sum = mx (- spOf cs gs q)) ∧ (∀ q (h : q < cs.length), ((zsOf cs gs xs).map (takP q)).sum ≤ mx (spOf cs gs q)) := by
  have hlen := mvOf_len cs.length (zsOf cs gs xs)
  have hget := fun q => mv_get (zs_in (xs := xs) ok) q
  have g1 : ∀ q (h : q < cs.length), (mvOf cs.length (zsOf cs gs xs)).1[q]'(by omega) = ((zsOf cs gs xs).map (movP q)).sum := fun q h => by
    rw [← (hget q).1, List.getD_eq_getElem?_getD, List.getElem?_eq_getElem (by omega)]; rfl
  have g2 : ∀ q (h : q < cs.length), (mvOf cs.length (zsOf cs gs xs)).2[q]'(by omega) = ((zsOf cs gs xs).map (takP q)).sum := fun q h => by
    rw [← (hget q).2, List.getD_eq_getElem?_getD, List.getElem?_eq_getElem (by omega)]; rfl
  unfold meetsD
  rw [Bool.and_eq_true, Bool.and_eq_true, decide_eq_true_iff, all_zip (α := Int) (by rw [hlen.2, rFre_len])]
  refine ⟨fun h => ⟨fun z hz hn => ?_, fun q hq => ?_, fun q hq => ?_⟩, fun h => ⟨⟨?_, ?_⟩, fun j h1 h2 => ?_⟩⟩
  · have := List.all_eq_true.mp h.1.1 z hz
    unfold goodZ at this
    rw [hn] at this
    simpa using this
  · rw [← g1 q hq, ← (exc_get (gs := gs) hq).1]
    congr 1
    exact h.1.2
  · have := h.2 q (by omega) (by rw [rFre_len]; exact hq)
    rw [g2 q hq, (exc_get (gs := gs) hq).2] at this
    exact this
  · rw [List.all_eq_true]
    intro z hz
    unfold goodZ
    cases hr : z.1 with
    | none => simp [h.1 z hz hr]
    | some r => rfl
  · refine List.ext_getElem (by rw [hlen.1, rExc_len]) fun q q1 q2 => ?_
    have hq : q < cs.length := by rw [hlen.1] at q1; exact q1
    rw [g1 q hq, h.2.1 q hq, (exc_get (gs := gs) hq).1]
  · have hq : j < cs.length := by rw [hlen.2] at h1; exact h1
    rw [g2 j hq, (exc_get (gs := gs) hq).2]
    exact h.2.2 j hq
theorem zs_map (f : Rt × Int → Int) : (zsOf cs gs xs).map f = (gs.zip xs).map (fun z => f (routeOf cs gs z.1, z.2)) := by
  unfold zsOf
  rw [List.zip_map_left, List.map_map]; rfl
theorem heads_in (ok : InsOk cs gs) : ∀ g ∈ gs, ∀ p ∈ g.1, 0 ≤ p ∧ p < (cs.length : Int) := fun g hg p hp => (ok.gp g hg).2.1 p hp
theorem sp_at (ok : InsOk cs gs) (q : Nat) : spOf cs gs q = cs.getD q 0 - (gs.map (headC q)).sum := by
  unfold spOf rDem
  rw [Int.toNat_natCast, dem_get (heads_in ok)]
theorem met_at {q : Nat} (h : q < cs.length) : (metOf cs gs).getD q 0 = cs.getD q 0 - mx (spOf cs gs q) := by
  have hd : q < (rDem cs gs).length := by rw [rDem_len]; exact h
  unfold metOf
  rw [List.getD_eq_getElem?_getD, List.getElem?_map, List.getElem?_eq_getElem (by rw [List.length_zip]; omega)]
  simp only [List.getElem_zip, Option.map_some, Option.getD_some]
  unfold spOf mn mx
  rw [Int.toNat_natCast, List.getD_eq_getElem?_getD, List.getElem?_eq_getElem h, List.getD_eq_getElem?_getD, List.getElem?_eq_getElem hd]
  simp only [Option.getD_some]
  split <;> split <;> omega
theorem met_len : (metOf cs gs).length = cs.length := by unfold metOf; rw [List.length_map, List.length_zip, rDem_len]; omega
theorem served_len (zs : List (Gp × List Int)) (n : Nat) : (servedOf n zs).length = n := demOf_len ..
theorem served_at {zs : List (Gp × List Int)} {n : Nat} (h : ∀ z ∈ zs, ∀ p ∈ z.1.1, 0 ≤ p ∧ p < (n : Int)) (q : Nat) : (servedOf n zs).getD q 0 = (zs.map (fun z => headC q (z.1.1, z.2.getD 0 0))).sum := by
  unfold servedOf
  rw [dem_get (fun g hg => by obtain ⟨z, hz, rfl⟩ := List.mem_map.mp hg; exact h z hz), List.map_map]; rfl
theorem claims_iff {zs : List (Gp × List Int)} : servedOf cs.length zs = metOf cs gs ↔ ∀ q, q < cs.length → (servedOf cs.length zs).getD q 0 = (metOf cs gs).getD q 0 := by
  constructor
  · intro h q _; rw [h]
  · intro h
    refine List.ext_getElem (by rw [served_len, met_len]) fun q q1 q2 => ?_
    have := h q (by rw [met_len] at q2; exact q2)
    rwa [List.getD_eq_getElem?_getD, List.getD_eq_getElem?_getD, List.getElem?_eq_getElem q1, List.getElem?_eq_getElem q2] at this
theorem zip_in {α β : Type} {as : List α} {bs : List β} {z : α × β} (h : z ∈ as.zip bs) : z.1 ∈ as ∧ z.2 ∈ bs := List.of_mem_zip (a := z.1) (b := z.2) h
end
end Pv

namespace Pv
open PySem PySem.Spec PyProof.Rows L2
section
variable {cs : List Int} {gs : List Gp} {xs : List Int} {rows : List (List Int)}
theorem mx_two (s : Int) : mx s - mx (-s) = s := by unfold mx; split <;> split <;> omega
theorem route_head {g : Gp} {r : Int × Option Int} (h : routeOf cs gs g = some r) : ∃ p ps, g.1 = p :: ps ∧ r.1 = p ∧ r.2 = g.1[resC cs gs g]? ∧ (rCro cs gs).contains p = true := by
  unfold routeOf at h
  cases e : g.1 with
  | nil => rw [e] at h; cases h
  | cons p ps =>
    rw [e] at h
    simp only at h
    split at h
    case isFalse => cases h
    case isTrue hc => cases h; exact ⟨p, ps, rfl, rfl, by unfold resC; rw [e], hc⟩
theorem route_none {g : Gp} {p : Int} {ps : List Int} (h : routeOf cs gs g = none) (e : g.1 = p :: ps) : (rCro cs gs).contains p = false := by
  unfold routeOf at h
  rw [e] at h
  simp only at h
  split at h
  · cases h
  · rename_i hc; simpa using hc
/-- the assignment of a vector -/
theorem as_unb (ok : InsOk cs gs) (hv : IsVec cs gs xs) : Shp gs (asOf cs gs xs) ∧ unbB cs gs (asOf cs gs xs) = true ∧ vecOf cs gs (asOf cs gs xs) = xs := by
  have hl := hv.1
  have hz := zip_self_map (fun z : Gp × Int => rowV z.1 (resC cs gs z.1) z.2) gs xs hl.symm
  have hm := (meets_sums ok).mp hv.2.2
  have h0 : ∀ w ∈ gs.zip xs, routeOf cs gs w.1 = none → w.2 = 0 := fun w hw hn => by
    refine hm.1 (routeOf cs gs w.1, w.2) ?_ hn
    unfold zsOf
    rw [List.zip_map_left]
    exact List.mem_map.mpr ⟨w, hw, rfl⟩
  refine ⟨⟨by unfold asOf; rw [List.length_map, List.length_zip]; omega, fun z hz' => ?_⟩, ?_, ?_⟩
  · unfold asOf at hz'
    rw [hz] at hz'
    obtain ⟨w, _, rfl⟩ := List.mem_map.mp hz'
    exact rowV_len ..
  · unfold unbB asOf
    rw [hz, Bool.and_eq_true]
    constructor
    · unfold onlyB
      rw [List.all_map, List.all_eq_true]
      intro w hw
      rw [Function.comp, List.all_eq_true]
      intro k hk
      simp only
      by_cases e : k = 0 ∨ k = resC cs gs w.1
      · rw [decide_eq_true e]; rfl
      · rw [rowV_get (resC_le _)]
        rw [if_neg (fun z => e (.inl z)), if_neg (fun z => e (.inr z.symm))]
        rw [decide_eq_false e]; rfl
    · rw [decide_eq_true_iff, claims_iff]
      intro q hq
      have hin : ∀ z ∈ (gs.zip xs).map (fun z => (z.1, rowV z.1 (resC cs gs z.1) z.2)), ∀ p ∈ z.1.1, 0 ≤ p ∧ p < (cs.length : Int) := by
        intro z hz'
        obtain ⟨w, hw, rfl⟩ := List.mem_map.mp hz'
        exact heads_in ok w.1 (zip_in hw).1
      rw [served_at hin, met_at hq, List.map_map]
      have hp : (gs.zip xs).map ((fun z : Gp × List Int => headC q (z.1.1, z.2.getD 0 0)) ∘ fun z => (z.1, rowV z.1 (resC cs gs z.1) z.2)) = (gs.zip xs).map (fun w => headC q w.1 - movP q (routeOf cs gs w.1, w.2)) := by
        refine List.map_congr_left fun w hw => ?_
        simp only [Function.comp]
        rw [rowV_get (resC_le _), if_pos rfl]
        cases e : w.1.1 with
        | nil =>
          have : routeOf cs gs w.1 = none := by unfold routeOf; rw [e]
          unfold headC movP
          rw [e, this]; simp
        | cons p ps =>
          have h1 := resC_pos (cs := cs) (gs := gs) (g := w.1) (by rw [e]; simp)
          rw [if_neg (by omega)]
          unfold headC
          rw [e]
          simp only
          cases hr : routeOf cs gs w.1 with
          | none => rw [h0 w hw hr]; unfold movP; simp
          | some r =>
            obtain ⟨p', ps', e', e1, _⟩ := route_head hr
            rw [e] at e'
            cases e'
            unfold movP
            simp only
            rw [e1]
            split <;> omega
      rw [hp, sum_sub]
      have e1 : ((gs.zip xs).map (fun w => headC q w.1)).sum = (gs.map (headC q)).sum := by
        have := zip_fst (as := gs) (bs := xs) hl.symm
        conv => rhs; rw [← this, List.map_map]
        rfl
      have e2 := hm.2.1 q hq
      rw [zs_map] at e2
      rw [e1, e2]
      have e3 := sp_at ok q
      have e4 := mx_two (spOf cs gs q)
      omega
  · unfold vecOf asOf
    rw [hz, List.map_map]
    have := zip_snd (as := gs) (bs := xs) hl.symm
    conv => rhs; rw [← this]
    refine List.map_congr_left fun w hw => ?_
    simp only [Function.comp]
    unfold xOf
    simp only
    cases hr : routeOf cs gs w.1 with
    | none => exact (h0 w hw hr).symm
    | some r =>
      obtain ⟨p, ps, e, _⟩ := route_head hr
      have h1 := resC_pos (cs := cs) (gs := gs) (g := w.1) (by rw [e]; simp)
      simp only
      rw [rowV_get (resC_le _), if_neg (by omega), if_pos rfl]; omega
def loadC (q : Int) (z : Gp × List Int) : Int := ((z.1.1.zip z.2).map (fun w => if w.1 = q then w.2 else 0)).sum
structure AsgOk (cs : List Int) (gs : List Gp) (rows : List (List Int)) : Prop where
  shp : Shp gs rows
  nn : ∀ z ∈ gs.zip rows, ∀ x ∈ z.2, 0 ≤ x
  sum : ∀ z ∈ gs.zip rows, z.2.sum = z.1.2
  load : ∀ q : Nat, q < cs.length → ((gs.zip rows).map (loadC q)).sum ≤ cs.getD q 0
theorem sum_one : ∀ {l : List Int} {i : Nat}, i < l.length → (∀ k, k ≠ i → l.getD k 0 = 0) → l.sum = l.getD i 0
  | [], i, h, _ => by simp at h
  | a :: l, 0, _, h => by
    have : l.sum = 0 := by
      have hz : ∀ y ∈ l, y = 0 := fun y hy => by
        obtain ⟨k, hk⟩ := List.getElem?_of_mem hy
        have := h (k + 1) (by omega)
        rw [List.getD_eq_getElem?_getD, List.getElem?_cons_succ, hk] at this
        exact this
      have := sum_zero (f := id) (l := l) hz
      simpa using this
    rw [List.sum_cons, this]; simp
  | a :: l, i + 1, hi, h => by
    have h0 := h 0 (by omega)
    have ih := sum_one (l := l) (i := i) (by simpa using hi) (fun k hk => by
      have := h (k + 1) (by omega)
      simpa [List.getD_eq_getElem?_getD] using this)
    rw [List.sum_cons, ih]
    have : a = 0 := by simpa [List.getD_eq_getElem?_getD] using h0
    rw [this]; simp [List.getD_eq_getElem?_getD]
theorem getD_nn {l : List Int} (h : ∀ x ∈ l, 0 ≤ x) (k : Nat) : 0 ≤ l.getD k 0 := by
  rw [List.getD_eq_getElem?_getD]
  cases e : l[k]? with
  | none => exact Int.le_refl _
  | some x => exact h x (List.mem_of_getElem? e)
theorem ext_getD {l m : List Int} (hl : l.length = m.length) (h : ∀ k, l.getD k 0 = m.getD k 0) : l = m := by
  refine List.ext_getElem hl fun k k1 k2 => ?_
  have := h k
  rwa [List.getD_eq_getElem?_getD, List.getD_eq_getElem?_getD, List.getElem?_eq_getElem k1, List.getElem?_eq_getElem k2] at this
/-- the vector of an assignment -/
theorem unb_vec (ok : InsOk cs gs) (A : AsgOk cs gs rows) (hu : unbB cs gs rows = true) : IsVec cs gs (vecOf cs gs rows) ∧ asOf cs gs (vecOf cs gs rows) = rows := by
  obtain ⟨hl, hs⟩ := A.shp
  have hz := zip_self_map (xOf cs gs) gs rows hl.symm
  unfold unbB at hu
  rw [Bool.and_eq_true, decide_eq_true_iff, claims_iff] at hu
  obtain ⟨ho, hc⟩ := hu
  have hin : ∀ z ∈ gs.zip rows, ∀ p ∈ z.1.1, 0 ≤ p ∧ p < (cs.length : Int) := fun z hz' => heads_in ok z.1 (zip_in hz').1
  have other : ∀ z ∈ gs.zip rows, ∀ k, k ≠ 0 → k ≠ resC cs gs z.1 → z.2.getD k 0 = 0 := by
    intro z hz' k k0 kr
    by_cases hk : k < z.2.length
    · unfold onlyB at ho
      have := List.all_eq_true.mp (List.all_eq_true.mp ho z hz') k (List.mem_range.mpr hk)
      rw [decide_eq_false (by omega)] at this
      have h1 : ¬ 0 < z.2.getD k 0 := by simpa using this
      have h2 := getD_nn (A.nn z hz') k
      omega
    · rw [List.getD_eq_getElem?_getD, List.getElem?_eq_none (by omega)]; rfl
  have two : ∀ z ∈ gs.zip rows, z.1.1 ≠ [] → z.2.getD 0 0 + z.2.getD (resC cs gs z.1) 0 = z.1.2 := by
    intro z hz' hne
    have h1 := resC_pos (cs := cs) (gs := gs) (g := z.1) hne
    have h2 := resC_le (cs := cs) (gs := gs) z.1
    have h3 := hs z hz'
    have h4 := A.sum z hz'
    match hrow : z.2, h3 with
    | a :: t, h3 =>
      rw [hrow] at h4
      have := sum_one (l := t) (i := resC cs gs z.1 - 1) (by simp at h3; omega) (fun k hk => by
        have := other z hz' (k + 1) (by omega) (by omega)
        rw [hrow] at this
        simpa [List.getD_eq_getElem?_getD] using this)
      rw [List.sum_cons, this] at h4
      rw [← h4]
      obtain ⟨m, hm⟩ : ∃ m, resC cs gs z.1 = m + 1 := ⟨resC cs gs z.1 - 1, by omega⟩
      rw [hm]
      simp [List.getD_eq_getElem?_getD]
  have gap : ∀ (q : Nat), ∀ z ∈ gs.zip rows, 0 ≤ headC q z.1 - headC q (z.1.1, z.2.getD 0 0) := by
    intro q z hz'
    unfold headC
    cases e : z.1.1 with
    | nil => simp
    | cons p ps =>
      have h1 := two z hz' (by rw [e]; simp)
      have h2 := getD_nn (A.nn z hz') (resC cs gs z.1)
      simp only
      split <;> omega
  have e1 : ∀ q : Nat, ((gs.zip rows).map (fun w => headC q w.1)).sum = (gs.map (headC q)).sum := fun q => by
    have := zip_fst (as := gs) (bs := rows) hl.symm
    conv => rhs; rw [← this, List.map_map]
    rfl
  have srv : ∀ q : Nat, q < cs.length → ((gs.zip rows).map (fun z => headC q (z.1.1, z.2.getD 0 0))).sum = cs.getD q 0 - mx (spOf cs gs q) := fun q hq => by
    rw [← served_at hin, hc q hq, met_at hq]
  have full : ∀ z ∈ gs.zip rows, routeOf cs gs z.1 = none → z.1.1 ≠ [] → z.2.getD 0 0 = z.1.2 := by
    intro z hz' hr hne
    cases e : z.1.1 with
    | nil => exact absurd e hne
    | cons p ps =>
      have hp := hin z hz' p (by rw [e]; exact List.mem_cons_self)
      have hnc := route_none hr e
      obtain ⟨q, rfl⟩ : ∃ q : Nat, p = (q : Int) := ⟨p.toNat, by omega⟩
      have hq : q < cs.length := by omega
      have hsp : ¬ spOf cs gs q < 0 := fun h => by
        have := cro_mem.mpr ⟨hp, h⟩
        have h2 : (rCro cs gs).contains (q : Int) = true := by simpa using this
        rw [h2] at hnc; cases hnc
      have hsum : ((gs.zip rows).map (fun w => headC q w.1 - headC q (w.1.1, w.2.getD 0 0))).sum = 0 := by
        rw [sum_sub, e1, srv q hq]
        have := sp_at ok q
        unfold mx
        split <;> omega
      have h1 := sum_ge (l := (gs.zip rows).map (fun w => headC q w.1 - headC q (w.1.1, w.2.getD 0 0))) (fun x hx => by
        obtain ⟨w, hw, rfl⟩ := List.mem_map.mp hx; exact gap q w hw) (List.mem_map.mpr ⟨z, hz', rfl⟩)
      have h2 := gap q z hz'
      rw [hsum] at h1
      have h3 : headC q z.1 - headC q (z.1.1, z.2.getD 0 0) = 0 := by omega
      unfold headC at h3
      rw [e] at h3
      simp only [if_pos] at h3
      omega
  have rowEq : ∀ z ∈ gs.zip rows, z.2 = rowV z.1 (resC cs gs z.1) (xOf cs gs z) := by
    intro z hz'
    refine ext_getD (by rw [rowV_len]; exact hs z hz') fun k => ?_
    rw [rowV_get (resC_le _)]
    cases e : z.1.1 with
    | nil =>
      have hr : routeOf cs gs z.1 = none := by unfold routeOf; rw [e]
      have hx : xOf cs gs z = 0 := by unfold xOf; rw [hr]
      have h3 := hs z hz'
      have h4 := A.sum z hz'
      rw [e] at h3
      rw [hx]
      match hrow : z.2, h3 with
      | [a], _ =>
        rw [hrow] at h4
        cases k with
        | zero => simp [List.getD_eq_getElem?_getD]; simpa using h4
        | succ k => simp [List.getD_eq_getElem?_getD]
    | cons p ps =>
      have hne : z.1.1 ≠ [] := by rw [e]; simp
      have h1 := resC_pos (cs := cs) (gs := gs) (g := z.1) hne
      have h2 := two z hz' hne
      have hxr : xOf cs gs z = z.2.getD (resC cs gs z.1) 0 := by
        unfold xOf
        cases hr : routeOf cs gs z.1 with
        | some r => rfl
        | none =>
          have := full z hz' hr hne
          simp only; omega
      by_cases k0 : k = 0
      · subst k0
        rw [if_pos rfl, if_neg (by omega), hxr]; omega
      · rw [if_neg k0]
        by_cases kr : resC cs gs z.1 = k
        · rw [if_pos kr, hxr, kr]; omega
        · rw [if_neg kr, other z hz' k k0 (fun h => kr h.symm)]; rfl
  have row0 : ∀ z ∈ gs.zip rows, z.1.1 ≠ [] → z.2.getD 0 0 = z.1.2 - xOf cs gs z := by
    intro z hz' hne
    have h1 := resC_pos (cs := cs) (gs := gs) (g := z.1) hne
    have := congrArg (fun l : List Int => l.getD 0 0) (rowEq z hz')
    have this : z.2.getD 0 0 = (rowV z.1 (resC cs gs z.1) (xOf cs gs z)).getD 0 0 := this
    rw [rowV_get (resC_le _), if_pos rfl, if_neg (by omega)] at this
    omega
  have xb : ∀ z ∈ gs.zip rows, 0 ≤ xOf cs gs z ∧ xOf cs gs z ≤ z.1.2 := by
    intro z hz'
    have hg := (ok.gp z.1 (zip_in hz').1).2.2.1
    unfold xOf
    cases hr : routeOf cs gs z.1 with
    | none => exact ⟨Int.le_refl _, by simp only; omega⟩
    | some r =>
      obtain ⟨p, ps, e, _⟩ := route_head hr
      have h1 := two z hz' (by rw [e]; simp)
      have h2 := getD_nn (A.nn z hz') (resC cs gs z.1)
      have h3 := getD_nn (A.nn z hz') 0
      simp only
      omega
  have hzx : gs.zip (vecOf cs gs rows) = (gs.zip rows).map (fun z => (z.1, xOf cs gs z)) := hz
  have hvl : (vecOf cs gs rows).length = gs.length := by unfold vecOf; rw [List.length_map, List.length_zip]; omega
  refine ⟨⟨hvl, fun j g x hg hx => ?_, (meets_sums ok).mpr ⟨fun z hz' hn => ?_, fun q hq => ?_, fun q hq => ?_⟩⟩, ?_⟩
  · unfold vecOf at hx
    rw [List.getElem?_map] at hx
    obtain ⟨z, hzj, rfl⟩ := Option.map_eq_some_iff.mp hx
    have h1 := (List.getElem?_zip_eq_some.mp hzj).1
    rw [hg] at h1
    cases h1
    exact xb z (List.mem_of_getElem? hzj)
  · have : z ∈ (gs.zip (vecOf cs gs rows)).map (fun w => (routeOf cs gs w.1, w.2)) := by
      unfold zsOf at hz'
      rw [List.zip_map_left] at hz'
      exact hz'
    rw [hzx, List.map_map] at this
    obtain ⟨w, hw, rfl⟩ := List.mem_map.mp this
    have hn : routeOf cs gs w.1 = none := hn
    show xOf cs gs w = 0
    unfold xOf
    rw [hn]
  · rw [zs_map, hzx, List.map_map]
    have hp : (gs.zip rows).map ((fun z : Gp × Int => movP q (routeOf cs gs z.1, z.2)) ∘ fun z => (z.1, xOf cs gs z)) = (gs.zip rows).map (fun z => headC q z.1 - headC q (z.1.1, z.2.getD 0 0)) := by
      refine List.map_congr_left fun z hz' => ?_
      simp only [Function.comp]
      unfold movP headC
      cases e : z.1.1 with
      | nil =>
        have hr : routeOf cs gs z.1 = none := by unfold routeOf; rw [e]
        rw [hr]; simp
      | cons p ps =>
        have hne : z.1.1 ≠ [] := by rw [e]; simp
        have h1 := row0 z hz' hne
        simp only
        cases hr : routeOf cs gs z.1 with
        | none =>
          have hx : xOf cs gs z = 0 := by unfold xOf; rw [hr]
          simp only
          split <;> omega
        | some r =>
          obtain ⟨p', ps', e', e2, _⟩ := route_head hr
          rw [e] at e'
          cases e'
          simp only
          rw [e2]
          split <;> omega
    rw [hp, sum_sub, e1, srv q hq]
    have h1 := sp_at ok q
    have h2 := mx_two (spOf cs gs q)
    omega
  · rw [zs_map, hzx, List.map_map]
    by_cases hsp : 0 < spOf cs gs q
    · have hle : ∀ z ∈ gs.zip rows, headC q (z.1.1, z.2.getD 0 0) + takP q (routeOf cs gs z.1, xOf cs gs z) ≤ loadC q z := by
        intro z hz'
        unfold headC takP loadC
        cases e : z.1.1 with
        | nil =>
          have hr : routeOf cs gs z.1 = none := by unfold routeOf; rw [e]
          rw [hr]; simp
        | cons p ps =>
          have h3 := hs z hz'
          rw [e] at h3
          match hrow : z.2, h3 with
          | a :: t, h3 =>
            simp only [List.zip_cons_cons, List.map_cons, List.sum_cons]
            have tnn : ∀ y ∈ (ps.zip t).map (fun w : Int × Int => if w.1 = (q : Int) then w.2 else 0), 0 ≤ y := by
              intro y hy
              obtain ⟨w, hw, rfl⟩ := List.mem_map.mp hy
              have := A.nn z hz' w.2 (by rw [hrow]; exact List.mem_cons_of_mem _ (zip_in hw).2)
              split <;> omega
            have t0 := sum_nn tnn
            have ha : (a :: t).getD 0 0 = a := by simp [List.getD_eq_getElem?_getD]
            rw [ha]
            cases hr : routeOf cs gs z.1 with
            | none => simp only; omega
            | some r =>
              obtain ⟨p', ps', e', e2, e3, _⟩ := route_head hr
              rw [e] at e'
              cases e'
              simp only
              by_cases hy : r.2 = some (q : Int)
              · rw [if_pos hy]
                rw [hy] at e3
                have h1 := resC_pos (cs := cs) (gs := gs) (g := z.1) (by rw [e]; simp)
                obtain ⟨m, hm⟩ : ∃ m, resC cs gs z.1 = m + 1 := ⟨resC cs gs z.1 - 1, by omega⟩
                have hxm : xOf cs gs z = t.getD m 0 := by
                  unfold xOf
                  rw [hr]
                  simp only
                  rw [hrow, hm]
                  simp [List.getD_eq_getElem?_getD]
                rw [e, hm, List.getElem?_cons_succ] at e3
                have hml := (List.getElem?_eq_some_iff.mp e3.symm).1
                have hmt : m < t.length := by simp at h3; omega
                have hmem : ((q : Int), t[m]) ∈ ps.zip t := by
                  refine List.mem_of_getElem? (i := m) ?_
                  rw [List.getElem?_zip_eq_some]
                  exact ⟨e3.symm, List.getElem?_eq_getElem hmt⟩
                have := sum_ge tnn (List.mem_map.mpr ⟨_, hmem, rfl⟩)
                simp only [if_true] at this
                rw [hxm, List.getD_eq_getElem?_getD, List.getElem?_eq_getElem hmt]
                simp only [Option.getD_some]
                omega
              · rw [if_neg hy]; omega
      have h1 := A.load q hq
      have h2 : ((gs.zip rows).map (fun z => headC q (z.1.1, z.2.getD 0 0) + takP q (routeOf cs gs z.1, xOf cs gs z))).sum ≤ ((gs.zip rows).map (loadC q)).sum := by
        generalize gs.zip rows = l at hle
        induction l with
        | nil => simp
        | cons z l ih =>
          have a1 := hle z List.mem_cons_self
          have a2 := ih (fun w hw => hle w (List.mem_cons_of_mem _ hw))
          simp only [List.map_cons, List.sum_cons]
          omega
      rw [sum_add, srv q hq] at h2
      show ((gs.zip rows).map (fun z => takP q (routeOf cs gs z.1, xOf cs gs z))).sum ≤ _
      omega
    · have : ((gs.zip rows).map ((fun z : Gp × Int => takP q (routeOf cs gs z.1, z.2)) ∘ fun z => (z.1, xOf cs gs z))).sum = 0 := sum_zero fun z hz' => by
        simp only [Function.comp]
        unfold takP
        cases hr : routeOf cs gs z.1 with
        | none => rfl
        | some r =>
          simp only
          exact if_neg fun h => hsp ((route_wf ok (zip_in hz').1 hr).2 q h).1
      rw [this]
      unfold mx
      split <;> omega
  · unfold asOf
    rw [hzx, List.map_map]
    have := zip_snd (as := gs) (bs := rows) hl.symm
    conv => rhs; rw [← this]
    refine List.map_congr_left fun z hz' => ?_
    exact (rowEq z hz').symm
end
end Pv

namespace Pv
open PySem PySem.Spec PyProof.Rows L2
abbrev sOy : Stmt := topS 29
theorem scOy : FnScope ["instance", "assignment", "group", "share", "usable", "option", "number"] ["instance", "assignment"] (defScope sOy) := ⟨rfl, rfl, rfl, by decide +kernel, rfl, by decide +kernel, by decide +kernel⟩
abbrev sAc : Stmt := topS 30
theorem scAc : FnScope ["instance", "assignment", "loads", "group", "share", "met", "capacity", "demand"] ["instance", "assignment"] (defScope sAc) := ⟨rfl, rfl, rfl, by decide +kernel, rfl, by decide +kernel, by decide +kernel⟩
abbrev sUb : Stmt := topS 28
theorem scUb : FnScope ["instance", "assignment"] ["instance", "assignment"] (defScope sUb) := ⟨rfl, rfl, rfl, by decide +kernel, rfl, by decide +kernel, by decide +kernel⟩
theorem served_snoc {n : Nat} {zs : List (Gp × List Int)} {j : Nat} {z : Gp × List Int} (h : zs[j]? = some z) : servedOf n (zs.take (j + 1)) = dAdd (servedOf n (zs.take j)) (z.1.1, z.2.getD 0 0) := by
  unfold servedOf
  rw [List.map_take, List.map_take]
  exact demOf_snoc (by rw [List.getElem?_map, h]; rfl)
def AsV (K : PySem.W.Frag) (H : Hp) (v : V) (rows : List (List Int)) : Prop := ∃ (a : Addr) (rv : List V), v = .ref a ∧ SqT K H a rv ∧ Rl (TuV K H) rv rows
theorem AsV.tk {K : PySem.W.Frag} {H H' : Hp} {v : V} {rows : List (List Int)} (h : AsV K H v rows) (t : TupK H H') : AsV K H' v rows := by
  obtain ⟨a, rv, e, h1, h2⟩ := h
  exact ⟨a, rv, e, t.sq h1, h2.mono fun v r h => h.tk t⟩
theorem AsV.same {K : PySem.W.Frag} {H H' : Hp} {v : V} {rows : List (List Int)} (h : AsV K H v rows) (s : Same H H') : AsV K H' v rows := h.tk (.of s)
def dAs (rows : List (List Int)) : PyData := .tuple (rows.map dI)
theorem rl_dp {K : PySem.W.Frag} {H : Hp} : ∀ {rv : List V} {rows : List (List Int)}, Rl (TuV K H) rv rows → DpAll K H rv (rows.map dI)
  | [], [], _ => .nil
  | v :: rv, r :: rows, h => by
    obtain ⟨T, e, hT⟩ := h.2 0 v r rfl rfl
    subst e
    exact .cons (dI_sq hT) (rl_dp ⟨by have := h.1; simpa using this, fun j w s h1 h2 => h.2 (j + 1) w s (by simpa using h1) (by simpa using h2)⟩)
  | [], _ :: _, h => by have := h.1; simp at this
  | _ :: _, [], h => by have := h.1; simp at this
theorem AsV.dp {K : PySem.W.Frag} {H : Hp} {v : V} {rows : List (List Int)} (h : AsV K H v rows) : Dp K H v (dAs rows) := by
  obtain ⟨a, rv, rfl, h1, h2⟩ := h
  exact .tup h1 (rl_dp h2)
theorem take_succ_some {α : Type} {l : List α} {j : Nat} {x : α} (h : l[j]? = some x) : l.take (j + 1) = l.take j ++ [x] := by rw [List.take_add_one, h]; rfl
theorem only_snoc {cs : List Int} {gs : List Gp} (zs : List (Gp × List Int)) (z : Gp × List Int) : onlyB cs gs (zs ++ [z]) = (onlyB cs gs zs && onlyB cs gs [z]) := by unfold onlyB; rw [List.all_append]
theorem only_false {cs : List Int} {gs : List Gp} {zs : List (Gp × List Int)} {z : Gp × List Int} (h : z ∈ zs) (hz : onlyB cs gs [z] = false) : onlyB cs gs zs = false := by
  cases e : onlyB cs gs zs with
  | false => rfl
  | true =>
    unfold onlyB at e hz
    have := List.all_eq_true.mp e z h
    rw [List.all_cons, this] at hz
    simp at hz
def onlyF (cs : List Int) (gs : List Gp) (g : Gp) (row : List Int) (k : Nat) : Option V := if (decide (k = 0 ∨ k = resC cs gs g)) = true then none else some (.bl (decide (0 < row.getD k 0)))
theorem onlyF_any {cs : List Int} {gs : List Gp} {g : Gp} {row : List Int} : ∃ bs : List Bool, (List.range row.length).filterMap (onlyF cs gs g row) = bs.map V.bl ∧ bs.any id = !onlyB cs gs [(g, row)] := by
  unfold onlyB
  simp only [List.all_cons, List.all_nil, Bool.and_true]
  generalize List.range row.length = l
  induction l with
  | nil => exact ⟨[], rfl, rfl⟩
  | cons k l ih =>
    obtain ⟨bs, h1, h2⟩ := ih
    by_cases e : k = 0 ∨ k = resC cs gs g
    · refine ⟨bs, ?_, ?_⟩
      · rw [List.filterMap_cons_none (by unfold onlyF; rw [if_pos (decide_eq_true e)])]; exact h1
      · rw [List.all_cons, decide_eq_true e, Bool.true_or, Bool.true_and]; exact h2
    · refine ⟨decide (0 < row.getD k 0) :: bs, ?_, ?_⟩
      · rw [List.filterMap_cons_some (by unfold onlyF; rw [if_neg (by simpa using e)]), h1]; rfl
      · rw [List.any_cons, List.all_cons, decide_eq_false e, Bool.false_or, h2, Bool.not_and, Bool.not_not]; rfl
section
variable {P : Program} {w : World} {K : PySem.W.Frag} {mg : Str → Option Value} {base : Heap}
def spOy (K : PySem.W.Frag) : Sp := fun vs H Q _ => ∃ (i : Addr) (v : V) (cs : List Int) (gs : List Gp) (rows : List (List Int)), vs = [.ref i, v] ∧ Dp K H (.ref i) (dInst cs gs) ∧ InsOk cs gs ∧ AsV K H v rows ∧ Shp gs rows ∧ ∀ H', Same H H' → Q (.bl (onlyB cs gs (gs.zip rows))) H'
set_option maxHeartbeats 8000000 in
theorem ok_Oy {f fRe : Addr} {fd fdRe : FuncData} (F : Fun K "only_reserves" "only_reserves" sOy f fd)
    (FRe : Fun K "reserve_option" "reserve_option" sRes fRe fdRe) (bRe : Binds K fdRe ["instance", "group"] []) (gRe : mg "reserve_option" = some (.ref fRe)) (GRe : FnOk P w K mg base CX0 4 fRe fdRe ["instance", "group"] (spRes K))
    (m_enumerate : mg "enumerate" = none) (m_any : mg "any" = none) :
    FnOk P w K mg base CX0 6 f fd ["instance", "assignment"] (spOy K) := by
  refine F.ok scOy (fun vs H Q E h => ?_) (fun cdv A outer s H vs Q E hr h => ?_)
  · obtain ⟨i, v, cs, gs, rows, rfl, _⟩ := h; rfl
  · obtain ⟨i, v, cs, gs, rows, rfl, hI, ok, hA, hS, q⟩ := h
    refine ⟨_, pss_cons (ps_for PassesOwn.never rfl (pi_enumT (by rfl) m_enumerate (pa_cons (pv 1) pa_nil)) (pg_tup rfl (pgs_cons (pg_name (i := 2) scOy.nd rfl (.inl rfl)) (pgs_cons (pg_name (i := 3) scOy.nd rfl (.inl rfl)) pgs_nil)))
        (pss_cons (ps_set (i := 4) scOy.nd rfl (.inr rfl) (pe_tup (pa_cons (pe_int) (pa_cons (pe_call GRe (hr.mono (by omega)) (by rfl) gRe FRe.kp bRe .nil pass0 (pa_cons (pv 0) (pa_cons (pv 2) pa_nil))) pa_nil))))
        (pss_one (ps_if (pt_val (pe_callB (cr_any rfl) (by rfl) m_any (by decide +kernel) (pa_cons (pe_lc (own := [("option", 5), ("number", 6)]) (g := gTup K 2 (gCons (gName 5) (gCons (gName 6) gNil))) (tt := tTest (tOp (rIn K true) (tVar 5) (tVar 4))) (te := tOp (rI0 fun i j => .bl (decide (j < i))) (tVar 6) (tC (.int 0))) rfl scOy.nd (pi_enumT (by rfl) m_enumerate (pa_cons (pv 3) pa_nil)) (blkOk_by (N := ["instance", "assignment", "group", "share", "usable", "option", "number"]) (sc := defScope sOy) (by decide +kernel)) (fun _ _ _ _ _ => pg_tup rfl (pgs_cons (pg_name (i := 5) scOy.nd rfl (.inl rfl)) (pgs_cons (pg_name (i := 6) scOy.nd rfl (.inl rfl)) pgs_nil))) (fun _ _ _ _ _ => pts_one (pt_cmpR op_notIn_seq (pv 5) (pv 4) (by rfl))) (fun _ _ _ _ _ => pe_cmpR op_gt (pv 6) (pe_int) (nomark _))) pa_nil)))
          (pss_one (ps_ret (pe_bl))) pss_nil))))
      (pss_one (ps_ret (pe_bl))), ?_⟩
    obtain ⟨a, rv, rfl, hA, hR⟩ := hA
    have lr : rv.length = rows.length := hR.1
    have lg := hS.1
    have h10 := ok.g10
    refine ⟨.ref a, rfl, a, _, rfl, hA, for_it (walk_enumT (K := K) (a := a) (xs := rv))
      (fun j σ H1 => ∃ (y2 y3 y4 : Option V), σ = [some (.ref i), some (.ref a), y2, y3, y4, none, none] ∧ Same H H1 ∧ onlyB cs gs ((gs.zip rows).take j) = true)
      ⟨none, none, none, rfl, Same.refl _, rfl⟩ (fun j σ H1 _ h => by obtain ⟨_, _, _, _, s1, _⟩ := h; exact sqS s1 hA) ?_ ?_⟩
    · rintro j v σ H1 H2 hlt ⟨y2, y3, y4, rfl, s1, hB⟩ ⟨T, x, y, rfl, nT, rfl, ex, ey⟩
      cases ex
      have ey : rv[j]? = some y := ey
      have hj : j < gs.length := by omega
      have hg : gs[j]? = some gs[j] := List.getElem?_eq_getElem hj
      obtain ⟨row, hrow, Tr, rfl, hTr⟩ := hR.at ey
      have hz : (gs.zip rows)[j]? = some (gs[j], row) := List.getElem?_zip_eq_some.mpr ⟨hg, hrow⟩
      have hlr : row.length = gs[j].1.length + 1 := hS.2 _ (List.mem_of_getElem? hz)
      have hgl := (ok.gp gs[j] (List.getElem_mem hj)).1
      have sT := sameNew (o := .tup [.int (j : Nat), .ref Tr]) nT
      have s02 := s1.trans sT
      refine ⟨T, _, rfl, SqT.of upd_same, rfl, _, _, rfl, _, _, rfl, rfl, ?_⟩
      refine ⟨.ref i, rfl, .int (j : Nat), rfl, i, j, cs, gs, gs[j], rfl, (TupK.of s02).dp _ _ (to_dInst _ _) hI, ok, hg, fun H3 s3 => ⟨(show (2 : Nat) ≤ sizeLine by decide), fun U nU => ?_⟩⟩
      have sU := sameNew (o := .tup [.int 0, .int (resOf gs[j].1 (rCla cs gs))]) nU
      have s04 := s02.trans (s3.trans sU)
      have hU : SqT K (upd H3 U (.tup [.int 0, .int (resOf gs[j].1 (rCla cs gs))])) U ([(0 : Int), (resC cs gs gs[j] : Nat)].map V.int) := SqT.of upd_same
      generalize upd H3 U (.tup [.int 0, .int (resOf gs[j].1 (rCla cs gs))]) = H4 at s04 hU
      refine ⟨.ref Tr, rfl, Tr, _, rfl, sqS s04 hTr, fun D nD => lc_it (walk_enumT (K := K) (a := Tr) (xs := row.map V.int))
        (LcP H4 D (List.range row.length) (onlyF cs gs gs[j] row)) (.start nD) (fun k H5 _ h => sqS (s04.trans h.1) hTr) ?_ ?_⟩
      · rintro k v H5 H6 hk hP ⟨T5, x5, y5, rfl, n5, rfl, ex5, ey5⟩
        cases ex5
        rw [List.length_map] at hk
        have ey5 : (row.map V.int)[k]? = some y5 := ey5
        rw [atS hk] at ey5
        cases ey5
        have s5 := sameNew (o := .tup [.int (k : Nat), .int row[k]]) n5
        have hkr : (List.range row.length)[k]? = some k := by rw [List.getElem?_range hk]
        refine ⟨T5, _, rfl, SqT.of upd_same, rfl, _, _, rfl, _, _, rfl, rfl, rfl, ?_⟩
        refine ⟨.int (k : Nat), rfl, .ref U, rfl, U, _, rfl, .inr (sqS (hP.1.trans s5) hU), rfl, flat_ints _, _, rfl, ?_⟩
        rw [if_pos rfl, inV_ints]
        have hcn : ([(0 : Int), (resC cs gs gs[j] : Nat)].contains ((k : Nat) : Int)) = decide (k = 0 ∨ k = resC cs gs gs[j]) := by
          by_cases e : k = 0 ∨ k = resC cs gs gs[j]
          · rw [decide_eq_true e]; rcases e with e | e <;> simp [e]
          · rw [decide_eq_false e]
            have h1 : ¬ (k = 0) := fun z => e (.inl z)
            have h2 : ¬ (k = resC cs gs gs[j]) := fun z => e (.inr z)
            simp [h1]; omega
        rw [hcn]
        by_cases e : k = 0 ∨ k = resC cs gs gs[j]
        · rw [decide_eq_true e]
          exact iteF (hP.no s5 hkr (by unfold onlyF; rw [if_pos (decide_eq_true e)]))
        · rw [decide_eq_false e]
          refine iteT ⟨.int row[k], rfl, _, _, rfl, rfl, hP.yes nD s5 hkr ?_ (by omega)⟩
          unfold onlyF
          rw [if_neg (by simpa using e), List.getD_eq_getElem?_getD, List.getElem?_eq_getElem hk]; rfl
      rintro H5 hP
      have e5 := hP.done (by rw [List.length_range, List.length_map]; exact Nat.le_refl _)
      obtain ⟨bs, hbs, hany⟩ := onlyF_any (cs := cs) (gs := gs) (g := gs[j]) (row := row)
      rw [hbs] at e5
      refine ⟨D, bs, rfl, SqL.of e5, _, rfl, ?_⟩
      rw [hany]
      cases hb : onlyB cs gs [(gs[j], row)] with
      | false => exact iteT (by rw [← only_false (List.mem_of_getElem? hz) hb]; exact q _ (s04.trans hP.1))
      | true => exact iteF ⟨_, _, _, rfl, s04.trans hP.1, by rw [take_succ_some hz, only_snoc, hB, hb]; rfl⟩
    rintro σ H1 ⟨y2, y3, y4, rfl, s1, hB⟩
    rw [List.take_of_length_le (by rw [List.length_zip]; omega)] at hB
    have := q _ s1
    rw [hB] at this
    exact this
def spAc (K : PySem.W.Frag) : Sp := fun vs H Q _ => ∃ (i : Addr) (v : V) (cs : List Int) (gs : List Gp) (rows : List (List Int)), vs = [.ref i, v] ∧ Dp K H (.ref i) (dInst cs gs) ∧ InsOk cs gs ∧ AsV K H v rows ∧ Shp gs rows ∧ ∀ H', Same H H' → Q (.bl (decide (servedOf cs.length (gs.zip rows) = metOf cs gs))) H'
set_option maxHeartbeats 8000000 in
theorem ok_Ac {f fDm : Addr} {fd fdDm : FuncData} (F : Fun K "all_claims_met" "all_claims_met" sAc f fd)
    (FDm : Fun K "demands" "demands" sDem fDm fdDm) (bDm : Binds K fdDm ["instance"] []) (gDm : mg "demands" = some (.ref fDm)) (GDm : FnOk P w K mg base CX0 1 fDm fdDm ["instance"] (spVec K rDem))
    (m_len : mg "len" = none) (m_zip : mg "zip" = none) (m_min : mg "min" = none) :
    FnOk P w K mg base CX0 6 f fd ["instance", "assignment"] (spAc K) := by
  refine F.ok scAc (fun vs H Q E h => ?_) (fun cdv A outer s H vs Q E hr h => ?_)
  · obtain ⟨i, v, cs, gs, rows, rfl, _⟩ := h; rfl
  · obtain ⟨i, v, cs, gs, rows, rfl, hI, ok, hA, hS, q⟩ := h
    have hu64 : (A.deeper (envOfC "all_claims_met" (defScope sAc) s.heap.objs.size f cdv)).units + 64 < cLine := by have := hr.un; omega
    refine ⟨_, pss_cons (ps_set (i := 2) scAc.nd rfl (.inl rfl) (pe_op op_rep (pe_lst (pa_cons (pe_int) pa_nil)) (pe_callB call_lenQ (by rfl) m_len PySem.boot_len (pa_cons (pe_ix ix_tup (pv 0) (pe_int) (fun _ _ => rfl)) pa_nil))))
      (pss_cons (ps_for PassesOwn.never rfl (RZ.pi_zipA (by rfl) m_zip (pa_cons (pe_ix ix_tup (pv 0) (pe_int) (fun _ _ => rfl)) (pa_cons (pv 1) pa_nil))) (pg_tup rfl (pgs_cons (pg_name (i := 3) scAc.nd rfl (.inl rfl)) (pgs_cons (pg_name (i := 4) scAc.nd rfl (.inl rfl)) pgs_nil)))
        (pss_one (ps_if (pt_cmpR op_gt (pe_callB call_lenQ (by rfl) m_len PySem.boot_len (pa_cons (pe_ix ix_tup (pv 3) (pe_int) (fun _ _ => rfl)) pa_nil)) (pe_int) (nomark _))
          (pss_one (ps_augS (pv 2) (pe_ix ix_tup (pe_ix ix_tup (pv 3) (pe_int) (fun _ _ => rfl)) (pe_int) (fun _ _ => rfl)) get_list (pe_ix ix_tup (pv 4) (pe_int) (fun _ _ => rfl)) ip_add set_list)) pss_nil)))
      (pss_cons (ps_setLc (i := 5) (own := [("capacity", 6), ("demand", 7)]) (g := gTup K 2 (gCons (gName 6) (gCons (gName 7) gNil))) (tt := tYes) (te := tCB (fun xs H Q => ∃ i j, xs = [.int i, .int j] ∧ Q (.int (if j < i then j else i)) H) (tCons (tVar 6) (tCons (tVar 7) tNil))) rfl scAc.nd rfl rfl (sw_true rfl rfl rfl (by decide +kernel)) (RZ.pi_zipA (by rfl) m_zip (pa_cons (pe_ix ix_tup (pv 0) (pe_int) (fun _ _ => rfl)) (pa_cons (pe_call GDm (hr.mono (by omega)) (by rfl) gDm FDm.kp bDm .nil pass0 (pa_cons (pv 0) pa_nil)) pa_nil))) (blkOk_by (N := ["instance", "assignment", "loads", "group", "share", "met", "capacity", "demand"]) (sc := defScope sAc) (by decide +kernel)) (fun _ _ _ _ _ => pg_tup rfl (pgs_cons (pg_name (i := 6) scAc.nd rfl (.inl rfl)) (pgs_cons (pg_name (i := 7) scAc.nd rfl (.inl rfl)) pgs_nil))) (fun _ _ _ _ _ => pts_nil) (fun _ _ _ _ _ => pe_callB (call_min2 rfl) (by rfl) m_min (by decide +kernel) (pa_cons (pv 6) (pa_cons (pv 7) pa_nil))))
      (pss_one (ps_ret (pe_cmpR (op_eqD hu64) (pv 2) (pv 5) (nomark _)))))), ?_⟩
    obtain ⟨a, rv, rfl, hA, hR⟩ := hA
    have lr : rv.length = rows.length := hR.1
    have lg := hS.1
    have h10 := ok.g10
    obtain ⟨_, ca, ga, xs, e, hi, hc, hg, hgs⟩ := inst_open hI
    cases e
    have lx := DpAll.len hgs
    rw [List.length_map] at lx
    have h6 := ok.c6
    refine ⟨by decide, fun p0 n0 => ⟨.ref i, rfl, i, _, 0, .ref ca, rfl, rfl, (TupK.new n0).sq hi, atI_nat (j := 0) rfl, ca, _, rfl, .inr ((TupK.new n0).sq hc), p0, _, _, rfl, rfl, upd_same, by omega, ?_, ?_, fun L nL => ?_⟩⟩
    · rw [List.length_map]; omega
    · rw [List.length_map]; show 1 * _ ≤ sizeLine; have := small (n := cs.length) (by omega); simp; omega
    have fL : H L = none := freeOf nL
    have s1 : Same H (upd (upd H p0 (.lst [.int 0])) L (.lst (List.replicate ((List.map V.int cs).length : Int).toNat [V.int 0]).flatten)) := samePut (sameNew n0) fL
    refine ⟨.ref i, rfl, i, _, 1, .ref ga, rfl, rfl, (TupK.of s1).sq hi, atI_nat (j := 1) rfl, .ref a, rfl, ga, a, _, _, rfl, .inr ⟨sqS s1 hg, sqS s1 hA, for_it (walk_zipT (K := K) (a := ga) (b := a) (xs := xs) (ys := rv) rfl)
      (fun j σ H2 => ∃ (y3 y4 : Option V), σ = [some (.ref i), some (.ref a), some (.ref L), y3, y4, none, none, none] ∧ Same H H2 ∧ H2 L = some (.lst ((servedOf cs.length ((gs.zip rows).take j)).map V.int)))
      ⟨none, none, rfl, s1, ?_⟩ (fun j σ H2 _ h => by obtain ⟨_, _, _, s2, _⟩ := h; exact ⟨sqS s2 hg, sqS s2 hA⟩) ?_ ?_⟩⟩
    · rw [upd_same, List.length_map, Int.toNat_natCast, zeros_V]; rfl
    · rintro j v σ H2 H3 hlt ⟨y3, y4, rfl, s2, e2⟩ ⟨T, x, y, rfl, nT, rfl, ex, ey⟩
      have ex : xs[j]? = some x := ex
      have ey : rv[j]? = some y := ey
      have hj : j < gs.length := by have := (List.getElem?_eq_some_iff.mp ex).1; omega
      have hgj : gs[j]? = some gs[j] := List.getElem?_eq_getElem hj
      obtain ⟨row, hrow, Tr, rfl, hTr⟩ := hR.at ey
      have hz : (gs.zip rows)[j]? = some (gs[j], row) := List.getElem?_zip_eq_some.mpr ⟨hgj, hrow⟩
      have hlr : row.length = gs[j].1.length + 1 := hS.2 _ (List.mem_of_getElem? hz)
      have hgp := (ok.gp gs[j] (List.getElem_mem hj)).2.1
      obtain ⟨gA, pA, hx, hG, hP⟩ := grp_at hgs hgj
      rw [hx] at ex
      cases ex
      have sT := sameNew (o := .tup [.ref gA, .ref Tr]) nT
      have s3 := s2.trans sT
      have e3 := sT _ _ e2
      have hsn := served_snoc (n := cs.length) hz
      have hdl := served_len ((gs.zip rows).take j) cs.length
      have hr0 : (row.map V.int)[0]? = some (.int (row.getD 0 0)) := by
        rw [List.getElem?_map, List.getD_eq_getElem?_getD, List.getElem?_eq_getElem (by rw [hlr]; omega)]; rfl
      generalize hcur : servedOf cs.length ((gs.zip rows).take j) = cur at e2 e3 hsn hdl
      refine ⟨T, _, rfl, SqT.of upd_same, rfl, _, _, rfl, _, _, rfl, rfl, ?_⟩
      refine ⟨.ref gA, rfl, gA, _, 0, .ref pA, rfl, rfl, sqS s3 hG, atI_nat (j := 0) rfl, pA, _, rfl, .inr (sqS s3 hP), _, _, rfl, rfl, _, rfl, ite2 (fun h1 => ?_) (fun h1 => ?_)⟩
      · obtain ⟨pp, ps, hps⟩ : ∃ pp ps, gs[j].1 = pp :: ps := by
          cases hgg : gs[j].1 with
          | nil => rw [hgg] at h1; exact absurd (of_decide_eq_true h1) (by simp)
          | cons a b => exact ⟨a, b, rfl⟩
        have hpr := hgp pp (by rw [hps]; simp)
        obtain ⟨pn, rfl⟩ : ∃ pn : Nat, pp = pn := ⟨pp.toNat, by omega⟩
        have hpl : pn < cur.length := by omega
        refine ⟨.ref L, rfl, .ref gA, rfl, gA, _, 0, .ref pA, rfl, rfl, sqS s3 hG, atI_nat (j := 0) rfl, pA, _, 0, .int pn, rfl, rfl, sqS s3 hP, atI_nat (j := 0) (by rw [hps]; rfl), L, _, pn, .int cur[pn], rfl, rfl, SqL.of e3, by rw [List.getElem?_map, List.getElem?_eq_getElem hpl]; rfl, .ref Tr, rfl, Tr, _, 0, .int (row.getD 0 0), rfl, rfl, sqS s3 hTr, atI_nat (j := 0) hr0, _, _, rfl, rfl, L, _, _, pn, rfl, rfl, e3, ixN_nat (by rw [List.length_map]; exact hpl), ?_⟩
        refine ⟨_, _, rfl, samePut s3 fL, ?_⟩
        rw [upd_same, hsn]
        unfold dAdd
        simp only
        rw [hps]
        show _ = some (HO.lst ((addAt cur pn (row.getD 0 0)).map V.int))
        unfold addAt
        rw [Int.toNat_natCast, List.getD_eq_getElem?_getD (l := cur), List.getElem?_eq_getElem hpl, List.map_set]
        rfl
      · have hge : gs[j].1 = [] := by
          cases hgg : gs[j].1 with
          | nil => rfl
          | cons a b => rw [hgg] at h1; exact absurd (decide_eq_true (by simp)) h1
        refine ⟨_, _, rfl, s3, ?_⟩
        rw [e3, hsn]
        unfold dAdd
        simp only
        rw [hge]
    rintro σ H2 ⟨y3, y4, rfl, s2, e2⟩
    rw [List.take_of_length_le (by rw [List.length_zip]; omega)] at e2
    refine ⟨.ref i, rfl, i, _, 0, .ref ca, rfl, rfl, sqS s2 hi, atI_nat (j := 0) rfl, .ref i, rfl, i, cs, gs, rfl, (TupK.of s2).dp _ _ (to_dInst _ _) hI, ok, fun H3 dm s3 hdm => ?_⟩
    have hD := sq_dI hdm
    have s03 := s2.trans s3
    refine ⟨ca, dm, _, _, rfl, .inr ⟨sqS s03 hc, hD, fun D nD => lc_it (walk_zipT (K := K) (a := ca) (b := dm) (xs := cs.map V.int) (ys := (rDem cs gs).map V.int) rfl)
      (LcP H3 D (cs.zip (rDem cs gs)) (fun z => some (.int (mn z.1 z.2)))) (.start nD) (fun j H4 _ h => ⟨sqS (s03.trans h.1) hc, sqS h.1 hD⟩) ?_ ?_⟩⟩
    · rintro j v H4 H5 hlt hP ⟨T, x, y, rfl, nT, rfl, hx, hy⟩
      have hx' : (cs.map V.int)[j]? = some x := hx
      have hy' : ((rDem cs gs).map V.int)[j]? = some y := hy
      rw [List.getElem?_map] at hx' hy'
      obtain ⟨c, hcj, rfl⟩ := Option.map_eq_some_iff.mp hx'
      obtain ⟨d, hdj, rfl⟩ := Option.map_eq_some_iff.mp hy'
      have hjl : j < cs.length := (List.getElem?_eq_some_iff.mp hcj).1
      exact ⟨T, _, rfl, SqT.of upd_same, rfl, _, _, rfl, _, _, rfl, rfl, rfl, .int c, rfl, .int d, rfl, _, _, rfl, hP.yes (x := (c, d)) nD (sameNew nT) (List.getElem?_zip_eq_some.mpr ⟨hcj, hdj⟩) rfl (by omega)⟩
    rintro H4 hP
    have e4 := hP.done (by rw [List.length_zip, List.length_map, List.length_map]; exact Nat.le_refl _)
    rw [fm_map] at e4
    have em : (cs.zip (rDem cs gs)).map (fun z => V.int (mn z.1 z.2)) = (metOf cs gs).map V.int := by unfold metOf; rw [List.map_map]; rfl
    rw [em] at e4
    refine ⟨.ref L, rfl, .ref D, rfl, .list ((servedOf cs.length (gs.zip rows)).map PyData.int), .list ((metOf cs gs).map PyData.int), .lst (SqL.of ((s3.trans hP.1) _ _ e2)) (dp_ints _), .lst (SqL.of e4) (dp_ints _), shaped_ints _, shaped_ints _, ?_⟩
    rw [eqv_intsL]
    exact q _ (s03.trans hP.1)
def spUb (K : PySem.W.Frag) : Sp := fun vs H Q _ => ∃ (i : Addr) (v : V) (cs : List Int) (gs : List Gp) (rows : List (List Int)), vs = [.ref i, v] ∧ Dp K H (.ref i) (dInst cs gs) ∧ InsOk cs gs ∧ AsV K H v rows ∧ Shp gs rows ∧ ∀ H', Same H H' → Q (.bl (unbB cs gs rows)) H'
set_option maxHeartbeats 8000000 in
theorem ok_Ub {f fOy fAc : Addr} {fd fdOy fdAc : FuncData} (F : Fun K "is_unbeaten" "is_unbeaten" sUb f fd)
    (FOy : Fun K "only_reserves" "only_reserves" sOy fOy fdOy) (bOy : Binds K fdOy ["instance", "assignment"] []) (gOy : mg "only_reserves" = some (.ref fOy)) (GOy : FnOk P w K mg base CX0 6 fOy fdOy ["instance", "assignment"] (spOy K))
    (FAc : Fun K "all_claims_met" "all_claims_met" sAc fAc fdAc) (bAc : Binds K fdAc ["instance", "assignment"] []) (gAc : mg "all_claims_met" = some (.ref fAc)) (GAc : FnOk P w K mg base CX0 6 fAc fdAc ["instance", "assignment"] (spAc K))
     :
    FnOk P w K mg base CX0 7 f fd ["instance", "assignment"] (spUb K) := by
  refine F.ok scUb (fun vs H Q E h => ?_) (fun cdv A outer s H vs Q E hr h => ?_)
  · obtain ⟨i, v, cs, gs, rows, rfl, _⟩ := h; rfl
  · obtain ⟨i, v, cs, gs, rows, rfl, hI, ok, hA, hS, q⟩ := h
    refine ⟨_, pss_one (ps_ret (pe_and (pe_call GOy (hr.mono (by omega)) (by rfl) gOy FOy.kp bOy .nil pass0 (pa_cons (pv 0) (pa_cons (pv 1) pa_nil))) (pe_one (pe_call GAc (hr.mono (by omega)) (by rfl) gAc FAc.kp bAc .nil pass0 (pa_cons (pv 0) (pa_cons (pv 1) pa_nil)))))), ?_⟩
    refine ⟨.ref i, rfl, v, rfl, i, v, cs, gs, rows, rfl, hI, ok, hA, hS, fun H1 s1 => ⟨_, rfl, ?_⟩⟩
    cases hb : onlyB cs gs (gs.zip rows) with
    | false => exact iteF (by have := q _ s1; unfold unbB at this; rw [hb] at this; exact this)
    | true =>
      refine iteT ⟨.ref i, rfl, v, rfl, i, v, cs, gs, rows, rfl, (TupK.of s1).dp _ _ (to_dInst _ _) hI, ok, hA.same s1, hS, fun H2 s2 => ?_⟩
      have := q _ (s1.trans s2)
      unfold unbB at this
      rw [hb, Bool.true_and] at this
      exact this
end
end Pv

namespace Pv
open PySem PySem.Spec PyProof.Rows L2
abbrev sVo : Stmt := topS 34
theorem scVo : FnScope ["instance", "assignment", "group", "route"] ["instance", "assignment"] (defScope sVo) := ⟨rfl, rfl, rfl, by decide +kernel, rfl, by decide +kernel, by decide +kernel⟩
abbrev sAo : Stmt := topS 35
theorem scAo : FnScope ["instance", "vector", "shares", "group", "number", "posts", "count", "share"] ["instance", "vector"] (defScope sAo) := ⟨rfl, rfl, rfl, by decide +kernel, rfl, by decide +kernel, by decide +kernel⟩
abbrev sLt : Stmt := topS 52
theorem scLt : FnScope ["_law_instance_here", "_law_vector", "_law_found", "_law_group", "_law_posts", "_law_count", "_law_numbers", "_law_second"] ["_law_instance_here", "_law_vector"] (defScope sLt) := ⟨rfl, rfl, rfl, by decide +kernel, rfl, by decide +kernel, by decide +kernel⟩
theorem vec_shape {cs : List Int} {gs : List Gp} {d : PyData} (h : isVecD cs gs d = true) : ∃ xs, d = dI xs ∧ IsVec cs gs xs := by
  have h0 := h
  unfold isVecD at h
  rw [Bool.and_eq_true, Bool.and_eq_true] at h
  obtain ⟨h1, h2, _⟩ := h
  obtain ⟨ds, rfl, hl⟩ : ∃ ds, d = .tuple ds ∧ ds.length = gs.length := by
    cases d with
    | tuple ds => exact ⟨ds, rfl, by have := of_decide_eq_true h1; omega⟩
    | _ => simp [tupOfD] at h1
  have key : ∀ (gs : List Gp) (ds : List PyData), ds.length = gs.length → (gs.zip ds).all (fun z => withinD 0 z.1.2 z.2) = true → ∃ xs : List Int, ds = xs.map PyData.int := by
    intro gs
    induction gs with
    | nil => intro ds hl _; exact ⟨[], by rw [List.length_eq_zero_iff.mp hl]; rfl⟩
    | cons g gs ih =>
      intro ds hl ha
      cases ds with
      | nil => simp at hl
      | cons d ds =>
        rw [List.zip_cons_cons, List.all_cons, Bool.and_eq_true] at ha
        obtain ⟨xs, e⟩ := ih ds (by simpa using hl) ha.2
        cases d with
        | int x => exact ⟨x :: xs, by rw [e]; rfl⟩
        | _ => simp [withinD] at ha
  obtain ⟨xs, e⟩ := key gs ds hl h2
  subst e
  exact ⟨xs, rfl, vecD_iff.mp h0⟩
theorem as_take {cs : List Int} {gs : List Gp} {xs : List Int} {j : Nat} {g : Gp} {x : Int} (hg : gs[j]? = some g) (hx : xs[j]? = some x) : ((gs.zip xs).take (j + 1)).map (fun z => rowV z.1 (resC cs gs z.1) z.2) = ((gs.zip xs).take j).map (fun z => rowV z.1 (resC cs gs z.1) z.2) ++ [rowV g (resC cs gs g) x] := by
  rw [take_succ_some (x := (g, x)) (List.getElem?_zip_eq_some.mpr ⟨hg, hx⟩), List.map_append]; rfl
theorem zeros_at (n : Nat) : (List.replicate (((n : Nat) : Int) + 1).toNat [V.int 0]).flatten = (zeros (n + 1)).map V.int := by
  rw [show (((n : Nat) : Int) + 1).toNat = n + 1 by omega, zeros_V]
theorem add_V {l : List Int} {r : Nat} (h : r < l.length) (x : Int) : (l.map V.int).set r (.int (l[r] + x)) = (addAt l r x).map V.int := by
  unfold addAt
  rw [Int.toNat_natCast, List.getD_eq_getElem?_getD, List.getElem?_eq_getElem h, List.map_set]; rfl
section
variable {P : Program} {w : World} {K : PySem.W.Frag} {mg : Str → Option Value} {base : Heap}
def spVo (K : PySem.W.Frag) (C : Addr) : Sp := fun vs H Q E => ∃ (i : Addr) (v : V) (cs : List Int) (gs : List Gp) (rows : List (List Int)), vs = [.ref i, v] ∧ Dp K H (.ref i) (dInst cs gs) ∧ InsOk cs gs ∧ AsV K H v rows ∧ Shp gs rows ∧
  (unbB cs gs rows = true → ∀ H' T, Same H H' → SqT K H' T ((vecOf cs gs rows).map V.int) → Q (.ref T) H') ∧ (unbB cs gs rows = false → ∀ H', Same H H' → E (.ref C) none H')
set_option maxHeartbeats 8000000 in
theorem ok_Vo {f fUb fGr fRe : Addr} {fd fdUb fdGr fdRe : FuncData} (F : Fun K "vector_of" "vector_of" sVo f fd)
    (FUb : Fun K "is_unbeaten" "is_unbeaten" sUb fUb fdUb) (bUb : Binds K fdUb ["instance", "assignment"] []) (gUb : mg "is_unbeaten" = some (.ref fUb)) (GUb : FnOk P w K mg base CX0 7 fUb fdUb ["instance", "assignment"] (spUb K))
    (FGr : Fun K "group_routes" "group_routes" sGr fGr fdGr) (bGr : Binds K fdGr ["instance"] []) (gGr : mg "group_routes" = some (.ref fGr)) (GGr : FnOk P w K mg base CX0 5 fGr fdGr ["instance"] (spGr K))
    (FRe : Fun K "reserve_option" "reserve_option" sRes fRe fdRe) (bRe : Binds K fdRe ["instance", "group"] []) (gRe : mg "reserve_option" = some (.ref fRe)) (GRe : FnOk P w K mg base CX0 4 fRe fdRe ["instance", "group"] (spRes K))
    {cBe : Addr} (gBe : mg "Beaten" = some (.ref cBe)) (IBe : IsC K cBe) (xBe : PySem.W.excIn K cBe VEbm "ValueError.__new__" = true)
    (m_enumerate : mg "enumerate" = none) (m_tuple : mg "tuple" = none) :
    FnOk P w K mg base (L2.CX P w) 8 f fd ["instance", "assignment"] (spVo K cBe) := by
  refine F.okX scVo (fun vs H Q E h => ?_) (fun cdv A outer s H vs Q E hr h => ?_)
  · obtain ⟨i, v, cs, gs, rows, rfl, _⟩ := h; rfl
  · obtain ⟨i, v, cs, gs, rows, rfl, hI, ok, hA, hS, q⟩ := h
    refine ⟨_, pss_cons (ps_if (pt_not (pt_val (pe_call GUb (hr.mono (by omega)) (by rfl) gUb FUb.kp bUb .nil pass0 (pa_cons (pv 0) (pa_cons (pv 1) pa_nil)))))
        (pss_one (ps_raise rfl (takes_of rfl rfl rfl rfl) (pmk_own0 PySem.F.excBase_ValueError xBe gBe IBe.kp IBe.raises (by rfl)))) pss_nil)
      (pss_one (ps_ret (pe_callTy call_tupQ (by rfl) m_tuple (by decide +kernel) (pa_cons (pe_lc (own := [("group", 2), ("route", 3)]) (g := gTup K 2 (gCons (gName 2) (gCons (gName 3) gNil))) (tt := tYes) (te := tIf (tB (tIsN (tVar 3))) (tC (.int 0)) (tOp (rIxT K) (tOp (rIxT K) (tVar 1) (tVar 2)) (tCall (spRes K) [] E0 (tCons (tVar 0) (tCons (tVar 2) tNil))))) rfl scVo.nd (pi_enum (by rfl) m_enumerate (pa_cons (pe_call GGr (hr.mono (by omega)) (by rfl) gGr FGr.kp bGr .nil pass0 (pa_cons (pv 0) pa_nil)) pa_nil)) (blkOk_by (N := ["instance", "assignment", "group", "route"]) (sc := defScope sVo) (by decide +kernel)) (fun _ _ _ _ _ => pg_tup rfl (pgs_cons (pg_name (i := 2) scVo.nd rfl (.inl rfl)) (pgs_cons (pg_name (i := 3) scVo.nd rfl (.inl rfl)) pgs_nil))) (fun _ _ _ _ _ => pts_nil) (fun _ _ _ _ _ => pe_ifExp (pt_cmp (pc_isN (pv 3))) (pe_int) (pe_ix ix_tup (pe_ix ix_tup (pv 1) (pv 2) (fun _ _ => rfl)) (pe_call GRe (hr.mono (by omega)) (by rfl) gRe FRe.kp bRe .nil pass0 (pa_cons (pv 0) (pa_cons (pv 2) pa_nil))) (fun _ _ => rfl)))) pa_nil)))), ?_⟩
    obtain ⟨q1, q2⟩ := q
    have lg := hS.1
    have h10 := ok.g10
    refine ⟨.ref i, rfl, v, rfl, i, v, cs, gs, rows, rfl, hI, ok, hA, hS, fun H1 s1 => ⟨_, rfl, ?_⟩⟩
    cases hb : unbB cs gs rows with
    | false => exact iteT (q2 hb _ s1)
    | true =>
      refine iteF ?_
      obtain ⟨a, rv, rfl, hA, hR⟩ := hA
      have lr : rv.length = rows.length := hR.1
      refine ⟨.ref i, rfl, i, cs, gs, rfl, (TupK.of s1).dp _ _ (to_dInst _ _) hI, ok, fun H2 Ro ros s2 eR hRt nR => ?_⟩
      have s02 := s1.trans s2
      have lro : ros.length = gs.length := by rw [hRt.1, List.length_map]
      refine ⟨Ro, _, rfl, SqL.of eR, fun D nD => lc_it (walk_enum (K := K) (a := Ro) (xs := ros))
        (LcP H2 D (gs.zip rows) (fun z => some (.int (xOf cs gs z)))) (.start nD) (fun k H3 _ h => SqL.of (h.1 _ _ eR)) ?_ ?_⟩
      · rintro k v H3 H4 hk hP ⟨T, x, y, rfl, nT, rfl, ex, ey⟩
        cases ex
        have ey : ros[k]? = some y := ey
        have hkg : k < gs.length := by omega
        have hg : gs[k]? = some gs[k] := List.getElem?_eq_getElem hkg
        have hrv : rv[k]? = some (rv[k]'(by omega)) := List.getElem?_eq_getElem (by omega)
        obtain ⟨row, hrow, Tr, hTe, hTr⟩ := hR.at hrv
        have hz : (gs.zip rows)[k]? = some (gs[k], row) := List.getElem?_zip_eq_some.mpr ⟨hg, hrow⟩
        have hlr : row.length = gs[k].1.length + 1 := hS.2 _ (List.mem_of_getElem? hz)
        have sT := sameNew (o := .tup [.int (k : Nat), y]) nT
        have hRk := hRt.2 k y (routeOf cs gs gs[k]) ey (by rw [List.getElem?_map, hg]; rfl)
        refine ⟨T, _, rfl, SqT.of upd_same, rfl, _, _, rfl, _, _, rfl, rfl, rfl, ?_⟩
        cases hro : routeOf cs gs gs[k] with
        | none =>
          rw [hro] at hRk
          have hRk : y = .non := hRk
          subst hRk
          refine ⟨.non, rfl, _, rfl, iteT (hP.yes nD sT hz ?_ (by omega))⟩
          unfold xOf; rw [hro]
        | some r =>
          rw [hro] at hRk
          obtain ⟨Ty, rfl, _⟩ := hRk
          have s03 := s02.trans (hP.1.trans sT)
          have hrl := resC_le (cs := cs) (gs := gs) gs[k]
          refine ⟨.ref Ty, rfl, _, rfl, iteF ⟨.ref a, rfl, .int (k : Nat), rfl, a, _, _, .ref Tr, rfl, rfl, sqS s03 hA, atI_nat (by rw [hrv, hTe]), .ref i, rfl, .int (k : Nat), rfl, i, k, cs, gs, gs[k], rfl, (TupK.of s03).dp _ _ (to_dInst _ _) hI, ok, hg, fun H5 s5 => ?_⟩⟩
          refine ⟨Tr, _, _, .int (row.getD (resC cs gs gs[k]) 0), rfl, rfl, sqS (s03.trans s5) hTr, atI_nat (j := resC cs gs gs[k]) ?_, hP.yes nD (sT.trans s5) hz ?_ (by omega)⟩
          · rw [List.getElem?_map, List.getD_eq_getElem?_getD, List.getElem?_eq_getElem (by omega)]; rfl
          · unfold xOf; rw [hro]
      rintro H3 hP
      have e3 := hP.done (by rw [List.length_zip]; omega)
      rw [fm_map] at e3
      have ek : (gs.zip rows).map (fun z => V.int (xOf cs gs z)) = (vecOf cs gs rows).map V.int := by unfold vecOf; rw [List.map_map]; rfl
      rw [ek] at e3
      exact ⟨D, _, rfl, .inl ⟨SqL.of e3, fun p np => q1 hb _ _ ((s02.trans hP.1).trans (sameNew np)) (SqT.of upd_same)⟩⟩
def spAo (K : PySem.W.Frag) (C : Addr) : Sp := fun vs H Q E => ∃ (st r i : Addr) (v : V) (cs : List Int) (gs : List Gp) (d : PyData), vs = [.ref i, v] ∧ Dp K H (.ref i) (dInst cs gs) ∧ InsOk cs gs ∧ Dq K st r H v d ∧
  (∀ xs, d = dI xs → IsVec cs gs xs → ∀ H' T, Same H H' → AsV K H' (.ref T) (asOf cs gs xs) → Q (.ref T) H') ∧ (isVecD cs gs d = false → ∀ H', Same H H' → E (.ref C) none H')
set_option maxHeartbeats 8000000 in
theorem ok_Ao {f fIv fRe : Addr} {fd fdIv fdRe : FuncData} (F : Fun K "assignment_of" "assignment_of" sAo f fd)
    (FIv : Fun K "is_vector" "is_vector" sIv fIv fdIv) (bIv : Binds K fdIv ["instance", "value"] []) (gIv : mg "is_vector" = some (.ref fIv)) (GIv : FnOk P w K mg base CX0 7 fIv fdIv ["instance", "value"] (spIv K))
    (FRe : Fun K "reserve_option" "reserve_option" sRes fRe fdRe) (bRe : Binds K fdRe ["instance", "group"] []) (gRe : mg "reserve_option" = some (.ref fRe)) (GRe : FnOk P w K mg base CX0 4 fRe fdRe ["instance", "group"] (spRes K))
    {cBV : Addr} (gBV : mg "BadVector" = some (.ref cBV)) (IBV : IsC K cBV) (xBV : PySem.W.excIn K cBV VEbm "ValueError.__new__" = true)
    (m_enumerate : mg "enumerate" = none) (m_len : mg "len" = none) (m_tuple : mg "tuple" = none) :
    FnOk P w K mg base (L2.CX P w) 8 f fd ["instance", "vector"] (spAo K cBV) := by
  refine F.okX scAo (fun vs H Q E h => ?_) (fun cdv A outer s H vs Q E hr h => ?_)
  · obtain ⟨st, r, i, v, cs, gs, d, rfl, _⟩ := h; rfl
  · obtain ⟨st, r, i, v, cs, gs, d, rfl, hI, ok, hv, q⟩ := h
    refine ⟨_, pss_cons (ps_if (pt_not (pt_val (pe_call GIv (hr.mono (by omega)) (by rfl) gIv FIv.kp bIv .nil pass0 (pa_cons (pv 0) (pa_cons (pv 1) pa_nil)))))
        (pss_one (ps_raise rfl (takes_of rfl rfl rfl rfl) (pmk_own0 PySem.F.excBase_ValueError xBV gBV IBV.kp IBV.raises (by rfl)))) pss_nil)
      (pss_cons (ps_set (i := 2) scAo.nd rfl (.inl rfl) (pe_lst (pa_nil)))
      (pss_cons (ps_for (passes_of rfl) rfl (pi_enumT (by rfl) m_enumerate (pa_cons (pv 1) pa_nil)) (pg_tup rfl (pgs_cons (pg_name (i := 3) scAo.nd rfl (.inl rfl)) (pgs_cons (pg_name (i := 4) scAo.nd rfl (.inl rfl)) pgs_nil)))
        (pss_cons (ps_asg (pe_ix ix_tup (pe_ix ix_tup (pv 0) (pe_int) (fun _ _ => rfl)) (pv 3) (fun _ _ => rfl)) (pg_tup rfl (pgs_cons (pg_name (i := 5) scAo.nd rfl (.inl rfl)) (pgs_cons (pg_name (i := 6) scAo.nd rfl (.inl rfl)) pgs_nil))))
        (pss_cons (ps_set (i := 7) scAo.nd rfl (.inl rfl) (pe_op op_rep (pe_lst (pa_cons (pe_int) pa_nil)) (pe_op op_add (pe_callB call_lenQ (by rfl) m_len PySem.boot_len (pa_cons (pv 5) pa_nil)) (pe_int))))
        (pss_cons (ps_asg (pe_op op_sub (pv 6) (pv 4)) (pg_sub (pv 7) (pe_int) set_list))
        (pss_cons (ps_augS (pv 7) (pe_call GRe (hr.mono (by omega)) (by rfl) gRe FRe.kp bRe .nil pass0 (pa_cons (pv 0) (pa_cons (pv 3) pa_nil))) get_list (pv 4) ip_add set_list)
        (pss_one (ps_expr (pe_bm PySem.F.plainAttrs_list PySem.F.slot_list_append PySem.F.type_list_append mt_append (pv 2) (pa_cons (pe_callTy call_tupQ (by rfl) m_tuple (by decide +kernel) (pa_cons (pv 7) pa_nil)) pa_nil)))))))))
      (pss_one (ps_ret (pe_callTy call_tupQ (by rfl) m_tuple (by decide +kernel) (pa_cons (pv 2) pa_nil)))))), ?_⟩
    obtain ⟨q1, q2⟩ := q
    refine ⟨.ref i, rfl, v, rfl, st, r, i, v, cs, gs, d, rfl, hI, ok, hv, fun H1 s1 => ⟨_, rfl, ?_⟩⟩
    cases hb : isVecD cs gs d with
    | false => exact iteT (q2 hb _ s1)
    | true =>
      refine iteF ?_
      obtain ⟨xs, rfl, hvec⟩ := vec_shape hb
      obtain ⟨V0, rfl, hV⟩ : ∃ V0, v = .ref V0 ∧ SqT K H V0 (xs.map V.int) := by
        cases hv with
        | tup h1 h2 => exact ⟨_, rfl, sq_dI (Dq.to_dp (to_ints xs) (.tup h1 h2))⟩
      obtain ⟨_, ca, ga, ys, e, hi, hc, hgt, hgs⟩ := inst_open hI
      cases e
      have lx := DpAll.len hgs
      rw [List.length_map] at lx
      have h10 := ok.g10
      have hxl := hvec.1
      refine ⟨Nat.zero_le _, fun Fo nFo => ?_⟩
      have sF := s1.trans (sameNew (o := .lst []) nFo)
      refine ⟨.ref V0, rfl, V0, _, rfl, sqS sF hV, for_it (walk_enumT (K := K) (a := V0) (xs := xs.map V.int))
        (fun j σ H3 => ∃ (y3 y4 y5 y6 y7 : Option V) (vs : List V), σ = [some (.ref i), some (.ref V0), some (.ref Fo), y3, y4, y5, y6, y7] ∧ Same H1 H3 ∧ H3 Fo = some (.lst vs) ∧ Rl (TuV K H3) vs (((gs.zip xs).take j).map (fun z => rowV z.1 (resC cs gs z.1) z.2)))
        ⟨none, none, none, none, none, [], rfl, sameNew nFo, upd_same, Rl.nil⟩ (fun j σ H3 _ h => by obtain ⟨_, _, _, _, _, _, _, s3, _⟩ := h; exact sqS (s1.trans s3) hV) ?_ ?_⟩
      · rintro j v σ H3 H4 hlt ⟨y3, y4, y5, y6, y7, vs, rfl, s3, e3, hv3⟩ ⟨T, x, y, rfl, nT, rfl, ex, ey⟩
        cases ex
        rw [List.length_map] at hlt
        have ey : (xs.map V.int)[j]? = some y := ey
        rw [atS hlt] at ey
        cases ey
        have hj : j < gs.length := by omega
        have hg : gs[j]? = some gs[j] := List.getElem?_eq_getElem hj
        have hxj : xs[j]? = some xs[j] := List.getElem?_eq_getElem hlt
        obtain ⟨gA, pA, hx, hG, hP⟩ := grp_at hgs hg
        have hgl := (ok.gp gs[j] (List.getElem_mem hj)).1
        have lvs : vs.length ≤ j := by rw [hv3.1, List.length_map, List.length_take]; exact Nat.min_le_left _ _
        have sT := sameNew (o := .tup [.int (j : Nat), .int xs[j]]) nT
        have s04 := s1.trans (s3.trans sT)
        have e4 := sT _ _ e3
        refine ⟨T, _, rfl, SqT.of upd_same, rfl, _, _, rfl, _, _, rfl, rfl, ?_⟩
        refine ⟨.ref i, rfl, i, _, 1, .ref ga, rfl, rfl, sqS s04 hi, atI_nat (j := 1) rfl, .int (j : Nat), rfl, ga, _, _, .ref gA, rfl, rfl, sqS s04 hgt, atI_nat hx, gA, _, rfl, sqS s04 hG, rfl, _, _, rfl, _, _, rfl, rfl, ?_⟩
        have hv4 : Rl (TuV K _) vs (((gs.zip xs).take j).map (fun z => rowV z.1 (resC cs gs z.1) z.2)) := hv3.mono fun v r h => h.tk (TupK.of sT)
        have s14 := s3.trans sT
        have nFo4 : H1 Fo = none := nFo
        generalize upd H3 T (.tup [.int (j : Nat), .int xs[j]]) = H5 at sT s04 s14 e4 hv4
        refine ⟨by decide, fun p0 n0 => ⟨.ref pA, rfl, pA, _, rfl, .inr (sqS (s04.trans (sameNew n0)) hP), _, _, rfl, rfl, p0, _, _, rfl, rfl, upd_same, by omega, ?_, ?_, fun Sh nSh => ?_⟩⟩
        · rw [List.length_map]; omega
        · rw [List.length_map]; show 1 * _ ≤ sizeLine; have := small (n := gs[j].1.length + 1) (by omega); simp; omega
        have fSh : H5 Sh = none := freeOf nSh
        have s5 : Same H5 (upd (upd H5 p0 (.lst [.int 0])) Sh (.lst (List.replicate (((List.map V.int gs[j].1).length : Int) + 1).toNat [V.int 0]).flatten)) := samePut (sameNew n0) fSh
        have eSh : (upd (upd H5 p0 (.lst [.int 0])) Sh (.lst (List.replicate (((List.map V.int gs[j].1).length : Int) + 1).toNat [V.int 0]).flatten)) Sh = some (.lst ((zeros (gs[j].1.length + 1)).map V.int)) := by rw [upd_same, List.length_map, zeros_at]
        dsimp only at s5 eSh ⊢
        generalize upd (upd H5 p0 (.lst [.int 0])) Sh (.lst (List.replicate (((List.map V.int gs[j].1).length : Int) + 1).toNat [V.int 0]).flatten) = H6 at s5 eSh ⊢
        have hrl := resC_le (cs := cs) (gs := gs) gs[j]
        refine ⟨.int gs[j].2, rfl, .int xs[j], rfl, _, _, rfl, rfl, .ref Sh, rfl, Sh, _, _, 0, rfl, rfl, eSh, ixN_nat (by simp [zeros]), ?_⟩
        rw [← List.map_set]
        have s7 : Same H5 (upd H6 Sh (.lst (((zeros (gs[j].1.length + 1)).set 0 (gs[j].2 - xs[j])).map V.int))) := samePut s5 fSh
        have e7 : (upd H6 Sh (.lst (((zeros (gs[j].1.length + 1)).set 0 (gs[j].2 - xs[j])).map V.int))) Sh = some (.lst (((zeros (gs[j].1.length + 1)).set 0 (gs[j].2 - xs[j])).map V.int)) := upd_same
        generalize upd H6 Sh (.lst (((zeros (gs[j].1.length + 1)).set 0 (gs[j].2 - xs[j])).map V.int)) = H7 at s7 e7 ⊢
        have hcl : resC cs gs gs[j] < ((zeros (gs[j].1.length + 1)).set 0 (gs[j].2 - xs[j])).length := by rw [List.length_set]; simp [zeros]; omega
        have s07 := s04.trans s7
        refine ⟨.ref Sh, rfl, .ref i, rfl, .int (j : Nat), rfl, i, j, cs, gs, gs[j], rfl, (TupK.of s07).dp _ _ (to_dInst _ _) hI, ok, hg, fun H8 s8 => ?_⟩
        have e8 := s8 _ _ e7
        have s58 := s7.trans s8
        refine ⟨Sh, _, resC cs gs gs[j], .int (((zeros (gs[j].1.length + 1)).set 0 (gs[j].2 - xs[j]))[resC cs gs gs[j]]), rfl, rfl, SqL.of e8, by rw [List.getElem?_map, List.getElem?_eq_getElem hcl]; rfl, .int xs[j], rfl, _, _, rfl, rfl, Sh, _, _, resC cs gs gs[j], rfl, rfl, e8, ixN_nat (by rw [List.length_map]; exact hcl), ?_⟩
        rw [add_V hcl, show addAt ((zeros (gs[j].1.length + 1)).set 0 (gs[j].2 - xs[j])) (resC cs gs gs[j] : Nat) xs[j] = rowV gs[j] (resC cs gs gs[j]) xs[j] from rfl]
        have s9 : Same H5 (upd H8 Sh (.lst ((rowV gs[j] (resC cs gs gs[j]) xs[j]).map V.int))) := samePut s58 fSh
        have e9 : (upd H8 Sh (.lst ((rowV gs[j] (resC cs gs gs[j]) xs[j]).map V.int))) Sh = some (.lst ((rowV gs[j] (resC cs gs gs[j]) xs[j]).map V.int)) := upd_same
        generalize upd H8 Sh (.lst ((rowV gs[j] (resC cs gs gs[j]) xs[j]).map V.int)) = H9 at s9 e9 ⊢
        refine ⟨.ref Fo, rfl, .inl ⟨rfl, _, SqL.of (s9 _ _ e4)⟩, .ref Sh, rfl, Sh, _, rfl, .inl ⟨SqL.of e9, fun Tt nTt => ?_⟩⟩
        have sTt := sameNew (o := .tup ((rowV gs[j] (resC cs gs gs[j]) xs[j]).map V.int)) nTt
        have s5t := s9.trans sTt
        have eFt := s5t _ _ e4
        have hTt : SqT K (upd H9 Tt (.tup ((rowV gs[j] (resC cs gs gs[j]) xs[j]).map V.int))) Tt ((rowV gs[j] (resC cs gs gs[j]) xs[j]).map V.int) := SqT.of upd_same
        generalize upd H9 Tt (.tup ((rowV gs[j] (resC cs gs gs[j]) xs[j]).map V.int)) = H10 at s5t eFt hTt ⊢
        have tkp : TupK H10 (upd H10 Fo (.lst (vs ++ [.ref Tt]))) := TupK.put eFt
        refine ⟨Fo, vs, _, rfl, rfl, eFt, small (by omega), _, _, _, _, _, vs ++ [.ref Tt], rfl, samePut (s14.trans s5t) nFo, upd_same, ?_⟩
        rw [as_take hg hxj]
        exact Rl.snoc (hv4.mono fun v r h => (h.tk (TupK.of s5t)).tk tkp) ⟨Tt, rfl, tkp.sq hTt⟩
      rintro σ H3 ⟨y3, y4, y5, y6, y7, vs, rfl, s3, e3, hv3⟩
      rw [List.length_map, List.take_of_length_le (by rw [List.length_zip]; omega)] at hv3
      exact ⟨.ref Fo, rfl, Fo, _, rfl, .inl ⟨SqL.of e3, fun p np => q1 xs rfl hvec _ _ ((s1.trans s3).trans (sameNew np)) ⟨p, vs, rfl, SqT.of upd_same, hv3.mono fun v r h => h.tk (TupK.of (sameNew np))⟩⟩⟩
def spLt (K : PySem.W.Frag) : Sp := fun vs H Q _ => ∃ (i v : Addr) (cs : List Int) (gs : List Gp) (xs : List Int), vs = [.ref i, .ref v] ∧ Dp K H (.ref i) (dInst cs gs) ∧ InsOk cs gs ∧ SqT K H v (xs.map V.int) ∧ xs.length = gs.length ∧ ∀ H' T, Same H H' → AsV K H' (.ref T) (asOf cs gs xs) → Q (.ref T) H'
set_option maxHeartbeats 8000000 in
theorem ok_Lt {f fLr : Addr} {fd fdLr : FuncData} (F : Fun K "_law_assignment" "_law_assignment" sLt f fd)
    (FLr : Fun K "_law_reserve" "_law_reserve" sLr fLr fdLr) (bLr : Binds K fdLr ["_law_instance_here", "_law_group"] []) (gLr : mg "_law_reserve" = some (.ref fLr)) (GLr : FnOk P w K mg base CX0 2 fLr fdLr ["_law_instance_here", "_law_group"] (spRes K))
    (m_enumerate : mg "enumerate" = none) (m_len : mg "len" = none) (m_tuple : mg "tuple" = none) :
    FnOk P w K mg base CX0 3 f fd ["_law_instance_here", "_law_vector"] (spLt K) := by
  refine F.ok scLt (fun vs H Q E h => ?_) (fun cdv A outer s H vs Q E hr h => ?_)
  · obtain ⟨i, v, cs, gs, xs, rfl, _⟩ := h; rfl
  · obtain ⟨i, v, cs, gs, xs, rfl, hI, ok, hV, hxl, q⟩ := h
    refine ⟨_, pss_cons (ps_set (i := 2) scLt.nd rfl (.inl rfl) (pe_lst (pa_nil)))
      (pss_cons (ps_for PassesOwn.never rfl (pi_enumT (by rfl) m_enumerate (pa_cons (pe_ix ix_tup (pv 0) (pe_int) (fun _ _ => rfl)) pa_nil)) (pg_tup rfl (pgs_cons (pg_name (i := 3) scLt.nd rfl (.inl rfl)) (pgs_cons (pg_tup rfl (pgs_cons (pg_name (i := 4) scLt.nd rfl (.inl rfl)) (pgs_cons (pg_name (i := 5) scLt.nd rfl (.inl rfl)) pgs_nil))) pgs_nil)))
        (pss_cons (ps_set (i := 6) scLt.nd rfl (.inl rfl) (pe_op op_rep (pe_lst (pa_cons (pe_int) pa_nil)) (pe_op op_add (pe_callB call_lenQ (by rfl) m_len PySem.boot_len (pa_cons (pv 4) pa_nil)) (pe_int))))
        (pss_cons (ps_asg (pe_op op_sub (pv 5) (pe_ix ix_tup (pv 1) (pv 3) (fun _ _ => rfl))) (pg_sub (pv 6) (pe_int) set_list))
        (pss_cons (ps_set (i := 7) scLt.nd rfl (.inl rfl) (pe_call GLr (hr.mono (by omega)) (by rfl) gLr FLr.kp bLr .nil pass0 (pa_cons (pv 0) (pa_cons (pv 3) pa_nil))))
        (pss_cons (ps_asg (pe_op op_add (pe_ix ix_list (pv 6) (pv 7) (fun _ _ => rfl)) (pe_ix ix_tup (pv 1) (pv 3) (fun _ _ => rfl))) (pg_sub (pv 6) (pv 7) set_list))
        (pss_one (ps_expr (pe_bm PySem.F.plainAttrs_list PySem.F.slot_list_append PySem.F.type_list_append mt_append (pv 2) (pa_cons (pe_callTy call_tupQ (by rfl) m_tuple (by decide +kernel) (pa_cons (pv 6) pa_nil)) pa_nil)))))))))
      (pss_one (ps_ret (pe_callTy call_tupQ (by rfl) m_tuple (by decide +kernel) (pa_cons (pv 2) pa_nil))))), ?_⟩
    obtain ⟨_, ca, ga, ys, e, hi, hc, hgt, hgs⟩ := inst_open hI
    cases e
    have lx := DpAll.len hgs
    rw [List.length_map] at lx
    have h10 := ok.g10
    refine ⟨Nat.zero_le _, fun Fo nFo => ?_⟩
    have sF := sameNew (o := .lst []) nFo
    refine ⟨.ref i, rfl, i, _, 1, .ref ga, rfl, rfl, sqS sF hi, atI_nat (j := 1) rfl, ga, _, rfl, sqS sF hgt, for_it (walk_enumT (K := K) (a := ga) (xs := ys))
      (fun j σ H3 => ∃ (y3 y4 y5 y6 y7 : Option V) (vs : List V), σ = [some (.ref i), some (.ref v), some (.ref Fo), y3, y4, y5, y6, y7] ∧ Same H H3 ∧ H3 Fo = some (.lst vs) ∧ Rl (TuV K H3) vs (((gs.zip xs).take j).map (fun z => rowV z.1 (resC cs gs z.1) z.2)))
      ⟨none, none, none, none, none, [], rfl, sameNew nFo, upd_same, Rl.nil⟩ (fun j σ H3 _ h => by obtain ⟨_, _, _, _, _, _, _, s3, _⟩ := h; exact sqS s3 hgt) ?_ ?_⟩
    · rintro j w σ H3 H4 hlt ⟨y3, y4, y5, y6, y7, vs, rfl, s3, e3, hv3⟩ ⟨T, x, y, rfl, nT, rfl, ex, ey⟩
      cases ex
      have ey : ys[j]? = some y := ey
      have hj : j < gs.length := by omega
      have hg : gs[j]? = some gs[j] := List.getElem?_eq_getElem hj
      have hlt : j < xs.length := by omega
      have hxj : xs[j]? = some xs[j] := List.getElem?_eq_getElem hlt
      have hxv : (xs.map V.int)[j]? = some (.int xs[j]) := atS hlt
      obtain ⟨gA, pA, hx, hG, hP⟩ := grp_at hgs hg
      rw [hx] at ey
      cases ey
      have hgl := (ok.gp gs[j] (List.getElem_mem hj)).1
      have lvs : vs.length ≤ j := by rw [hv3.1, List.length_map, List.length_take]; exact Nat.min_le_left _ _
      have sT := sameNew (o := .tup [.int (j : Nat), .ref gA]) nT
      have s04 := s3.trans sT
      have e4 := sT _ _ e3
      refine ⟨T, _, rfl, SqT.of upd_same, rfl, _, _, rfl, _, _, rfl, gA, _, rfl, sqS s04 hG, rfl, _, _, rfl, _, _, rfl, rfl, rfl, ?_⟩
      have hv4 : Rl (TuV K _) vs (((gs.zip xs).take j).map (fun z => rowV z.1 (resC cs gs z.1) z.2)) := hv3.mono fun v r h => h.tk (TupK.of sT)
      generalize upd H3 T (.tup [.int (j : Nat), .ref gA]) = H5 at sT s04 e4 hv4
      refine ⟨by decide, fun p0 n0 => ⟨.ref pA, rfl, pA, _, rfl, .inr (sqS (s04.trans (sameNew n0)) hP), _, _, rfl, rfl, p0, _, _, rfl, rfl, upd_same, by omega, ?_, ?_, fun Sh nSh => ?_⟩⟩
      · rw [List.length_map]; omega
      · rw [List.length_map]; show 1 * _ ≤ sizeLine; have := small (n := gs[j].1.length + 1) (by omega); simp; omega
      have fSh : H5 Sh = none := freeOf nSh
      have s5 : Same H5 (upd (upd H5 p0 (.lst [.int 0])) Sh (.lst (List.replicate (((List.map V.int gs[j].1).length : Int) + 1).toNat [V.int 0]).flatten)) := samePut (sameNew n0) fSh
      have eSh : (upd (upd H5 p0 (.lst [.int 0])) Sh (.lst (List.replicate (((List.map V.int gs[j].1).length : Int) + 1).toNat [V.int 0]).flatten)) Sh = some (.lst ((zeros (gs[j].1.length + 1)).map V.int)) := by rw [upd_same, List.length_map, zeros_at]
      dsimp only at s5 eSh ⊢
      generalize upd (upd H5 p0 (.lst [.int 0])) Sh (.lst (List.replicate (((List.map V.int gs[j].1).length : Int) + 1).toNat [V.int 0]).flatten) = H6 at s5 eSh ⊢
      have hrl := resC_le (cs := cs) (gs := gs) gs[j]
      refine ⟨.int gs[j].2, rfl, .ref v, rfl, .int (j : Nat), rfl, v, _, _, .int xs[j], rfl, rfl, sqS (s04.trans s5) hV, atI_nat hxv, _, _, rfl, rfl, .ref Sh, rfl, Sh, _, _, 0, rfl, rfl, eSh, ixN_nat (by simp [zeros]), ?_⟩
      rw [← List.map_set]
      have s7 : Same H5 (upd H6 Sh (.lst (((zeros (gs[j].1.length + 1)).set 0 (gs[j].2 - xs[j])).map V.int))) := samePut s5 fSh
      have e7 : (upd H6 Sh (.lst (((zeros (gs[j].1.length + 1)).set 0 (gs[j].2 - xs[j])).map V.int))) Sh = some (.lst (((zeros (gs[j].1.length + 1)).set 0 (gs[j].2 - xs[j])).map V.int)) := upd_same
      generalize upd H6 Sh (.lst (((zeros (gs[j].1.length + 1)).set 0 (gs[j].2 - xs[j])).map V.int)) = H7 at s7 e7 ⊢
      have hcl : resC cs gs gs[j] < ((zeros (gs[j].1.length + 1)).set 0 (gs[j].2 - xs[j])).length := by rw [List.length_set]; simp [zeros]; omega
      have s07 := s04.trans s7
      refine ⟨.ref i, rfl, .int (j : Nat), rfl, i, j, cs, gs, gs[j], rfl, (TupK.of s07).dp _ _ (to_dInst _ _) hI, ok, hg, fun H8 s8 => ?_⟩
      have e8 := s8 _ _ e7
      have s58 := s7.trans s8
      refine ⟨.ref Sh, rfl, .int (resC cs gs gs[j] : Nat), rfl, Sh, _, _, .int (((zeros (gs[j].1.length + 1)).set 0 (gs[j].2 - xs[j]))[resC cs gs gs[j]]), rfl, rfl, SqL.of e8, atI_nat (atS hcl), .ref v, rfl, .int (j : Nat), rfl, v, _, _, .int xs[j], rfl, rfl, sqS (s04.trans s58) hV, atI_nat hxv, _, _, rfl, rfl, .ref Sh, rfl, .int (resC cs gs gs[j] : Nat), rfl, Sh, _, _, resC cs gs gs[j], rfl, rfl, e8, ixN_nat (by rw [List.length_map]; exact hcl), ?_⟩
      rw [add_V hcl, show addAt ((zeros (gs[j].1.length + 1)).set 0 (gs[j].2 - xs[j])) (resC cs gs gs[j] : Nat) xs[j] = rowV gs[j] (resC cs gs gs[j]) xs[j] from rfl]
      have s9 : Same H5 (upd H8 Sh (.lst ((rowV gs[j] (resC cs gs gs[j]) xs[j]).map V.int))) := samePut s58 fSh
      have e9 : (upd H8 Sh (.lst ((rowV gs[j] (resC cs gs gs[j]) xs[j]).map V.int))) Sh = some (.lst ((rowV gs[j] (resC cs gs gs[j]) xs[j]).map V.int)) := upd_same
      generalize upd H8 Sh (.lst ((rowV gs[j] (resC cs gs gs[j]) xs[j]).map V.int)) = H9 at s9 e9 ⊢
      refine ⟨.ref Fo, rfl, .inl ⟨rfl, _, SqL.of (s9 _ _ e4)⟩, .ref Sh, rfl, Sh, _, rfl, .inl ⟨SqL.of e9, fun Tt nTt => ?_⟩⟩
      have sTt := sameNew (o := .tup ((rowV gs[j] (resC cs gs gs[j]) xs[j]).map V.int)) nTt
      have s5t := s9.trans sTt
      have eFt := s5t _ _ e4
      have hTt : SqT K (upd H9 Tt (.tup ((rowV gs[j] (resC cs gs gs[j]) xs[j]).map V.int))) Tt ((rowV gs[j] (resC cs gs gs[j]) xs[j]).map V.int) := SqT.of upd_same
      generalize upd H9 Tt (.tup ((rowV gs[j] (resC cs gs gs[j]) xs[j]).map V.int)) = H10 at s5t eFt hTt ⊢
      have tkp : TupK H10 (upd H10 Fo (.lst (vs ++ [.ref Tt]))) := TupK.put eFt
      refine ⟨Fo, vs, _, rfl, rfl, eFt, small (by omega), _, _, _, _, _, vs ++ [.ref Tt], rfl, samePut (s04.trans s5t) nFo, upd_same, ?_⟩
      rw [as_take hg hxj]
      exact Rl.snoc (hv4.mono fun v r h => (h.tk (TupK.of s5t)).tk tkp) ⟨Tt, rfl, tkp.sq hTt⟩
    rintro σ H3 ⟨y3, y4, y5, y6, y7, vs, rfl, s3, e3, hv3⟩
    rw [List.take_of_length_le (by rw [List.length_zip]; omega)] at hv3
    exact ⟨.ref Fo, rfl, Fo, _, rfl, .inl ⟨SqL.of e3, fun p np => q _ _ (s3.trans (sameNew np)) ⟨p, vs, rfl, SqT.of upd_same, hv3.mono fun v r h => h.tk (TupK.of (sameNew np))⟩⟩⟩
end
end Pv

set_option maxHeartbeats 1000000
/-! zip over lists and tuples, a name as the target -/
namespace ZM
open PySem
abbrev ZAt (h : Heap) (z TI TO : Addr) (f0 : Value) (f1 : Bool) : Prop :=
  h.get? z = some { cls := .type "zip", dict := none, data := .fields #[f0, .bool f1, .bool false, .ref TI, .ref TO], slots := #[] }
abbrev TAt (h : Heap) (T : Addr) (xs : List Value) : Prop := h.get? T = some { cls := .type "tuple", data := .seq xs.toArray }
def itsOf (b n : Nat) : List Value := (List.range n).map fun k => .ref (b + k)
theorem its_len (b n : Nat) : (itsOf b n).length = n := by simp [itsOf]
theorem its_at {b n k : Nat} (h : k < n) : (itsOf b n)[k]? = some (.ref (b + k)) := by simp [itsOf, h]
/-- an iterator over a list (true) or a tuple -/
def IterK (c : Bool) (h : Heap) (it l : Addr) (i : Nat) : Prop := ∃ o, h.get? it = some o ∧ o.cls = .type (if c then "list_iterator" else "tuple_iterator") ∧ o.data = .fields #[.ref l, .int i 0]
def SeqK (c : Bool) (h : Heap) (l : Addr) (items : Array Value) : Prop := ∃ o, h.get? l = some o ∧ o.cls = .type (if c then "list" else "tuple") ∧ ∃ n, o.data = .seq items n
/-- where the zip's own objects stand: the iterators from b on, then the tuple of them, the tuple it keeps, the zip -/
structure St0 (kd : Nat → Bool) (h : Heap) (b : Nat) (rows : List Addr) (f0 : Value) (f1 : Bool) (at_ : Nat → Nat) : Prop where
  zip : ZAt h (b + rows.length + 2) (b + rows.length) (b + rows.length + 1) f0 f1
  ti : TAt h (b + rows.length) (itsOf b rows.length)
  to : ∃ kept : List Value, kept.length = rows.length ∧ TAt h (b + rows.length + 1) kept
  it : ∀ (k : Nat) (row : Addr), rows[k]? = some row → IterK (kd k) h (b + k) row (at_ k)
/-- what is not the zip's own stays -/
def Off (b n : Nat) (h h' : Heap) : Prop := ∀ c o, (c < b ∨ b + n + 2 < c) → h.get? c = some o → h'.get? c = some o
theorem Off.refl (b n : Nat) (h : Heap) : Off b n h h := fun _ _ _ e => e
theorem Off.trans {b n : Nat} {h h1 h2 : Heap} (x : Off b n h h1) (y : Off b n h1 h2) : Off b n h h2 := fun c o r e => y c o r (x c o r e)
theorem Off.but {b n c0 : Nat} {h h' : Heap} (e : Heap.SameBut c0 h h') (hc : b ≤ c0 ∧ c0 ≤ b + n + 2) : Off b n h h' := fun c o r x => by
  rw [e.2 c (fun z => by subst z; omega)]; exact x
section
variable {prog : Program} {w : World} {A : Around} {E : Value → Shared → Prop} {s : Shared} {kd : Nat → Bool}
theorem alive {a : Addr} {Q : Option Obj → Shared → Prop} (h : Q (s.heap.get? a) s) : wpAny (model prog w) A (loadIfAlive a) Q E s := by
  intro Γ p hΓ
  unfold loadIfAlive
  rw [Sem.wp_loadIfAlive]
  exact wpAny_pure h Γ p hΓ
theorem nextOf_item {c : Bool} {it l : Addr} {i : Nat} {items} {x : Value} {Q : Value → Shared → Prop} (hit : IterK c s.heap it l i) (hl : SeqK c s.heap l items) (hx : items[i]? = some x)
    (hQ : ∀ h', IterK c h' it l (i + 1) → Heap.SameBut it s.heap h' → Q x { s with heap := h' }) : wpAny (model prog w) A (Builtin.SmallTypes.nextOf (.ref it)) Q E s := by
  cases c with
  | false => exact RZ.nextOf_tuple_item hit hl hx hQ
  | true => exact wpAny_nextOf_list_item hit hl hx hQ
theorem nextOf_end {c : Bool} {it l : Addr} {i : Nat} {items} {Q : Value → Shared → Prop} (hh : A.handled = none) (hit : IterK c s.heap it l i) (hl : SeqK c s.heap l items) (hx : items[i]? = none)
    (hE : ∀ h' e, Heap.ExtBut it s.heap h' → (∃ o, h'.get? e = some o ∧ o.cls = .type "StopIteration") → E (.ref e) { s with heap := h' }) : wpAny (model prog w) A (Builtin.SmallTypes.nextOf (.ref it)) Q E s := by
  cases c with
  | false => exact RZ.nextOf_tuple_end hh hit hl hx hE
  | true => exact wpAny_nextOf_list_end hh hit hl hx hE
/-- the draws, one iterator after another, into the tuple that the zip keeps -/
structure Half (kd : Nat → Bool) (s : Shared) (b : Nat) (rows : List Addr) (i : Nat) (col : List Value) (f0 : Value) (f1 : Bool) (k : Nat) (s' : Shared) : Prop where
  ex : ∃ h', s' = { s with heap := h' } ∧ h'.objs.size = s.heap.objs.size ∧ Off b rows.length s.heap h' ∧ ZAt h' (b + rows.length + 2) (b + rows.length) (b + rows.length + 1) f0 f1 ∧ TAt h' (b + rows.length) (itsOf b rows.length) ∧
    (∃ kept : List Value, kept.length = rows.length ∧ TAt h' (b + rows.length + 1) kept ∧ kept.take k = col.take k) ∧ ∀ (j : Nat) (row : Addr), rows[j]? = some row → IterK (kd j) h' (b + j) row (if j < k then i + 1 else i)
theorem ne_nat {a b : Nat} (h : ¬ (a = b)) : (show Addr from a) ≠ (show Addr from b) := h
theorem tuple_off {c : Bool} {b n : Nat} {h h' : Heap} {l : Addr} {items : Array Value} (x : Off b n h h') (hl : l < b) (ht : SeqK c h l items) : SeqK c h' l items := by
  obtain ⟨o, ho, r⟩ := ht
  exact ⟨o, x l o (.inl hl) ho, r⟩
end
end ZM

namespace ZM
open PySem
section
variable {prog : Program} {w : World} {A : Around} {E : Value → Shared → Prop} {s : Shared} {kd : Nat → Bool}
theorem own_free {z TI TO : Addr} {f0 : Value} {f1 : Bool} (hz : ZAt s.heap z TI TO f0 f1) (hf : f0 = .none ∨ ∃ a : Nat, f0 = rawInt a) :
    wpAny (model prog w) A (Builtin.SmallTypes.ownedTupleIsFree (.ref z)) (fun r s' => (r = true ∧ s' = s) ∨ (r = false ∧ ∃ h', s' = { s with heap := h' } ∧ ZAt h' z TI TO f0 true ∧ Heap.SameBut z s.heap h')) E s := by
  unfold Builtin.SmallTypes.ownedTupleIsFree
  rcases hf with rfl | ⟨a, rfl⟩
  · exact wpAny_bind (wpAny_field hz rfl (x := .none) rfl (wpAny_pure (.inl ⟨rfl, rfl⟩)))
  · refine wpAny_bind (wpAny_field hz rfl (x := rawInt a) rfl ?_)
    show wpAny _ _ (loadIfAlive (Int.toNat a) >>= _) _ _ _
    refine wpAny_bind (alive ?_)
    rw [Int.toNat_natCast]
    cases e : s.heap.get? a with
    | none => exact wpAny_pure (.inl ⟨rfl, rfl⟩)
    | some o =>
      show wpAny _ _ (field (.ref z) 1 >>= _) _ _ _
      refine wpAny_bind (wpAny_field hz rfl (x := .bool f1) rfl ?_)
      cases f1 with
      | true => exact wpAny_pure (.inr ⟨rfl, s.heap, rfl, hz, ⟨rfl, fun _ _ => rfl⟩⟩)
      | false =>
        show wpAny _ _ (setField (.ref z) 1 (.bool true) >>= _) _ _ _
        exact wpAny_bind (wpAny_setField_rec hz (by simp) fun h' hz' hs' => wpAny_pure (.inr ⟨rfl, h', rfl, hz', hs'⟩))
theorem cons_drop {α : Type} {x : α} {rest L : List α} {k : Nat} (e : x :: rest = L.drop k) : L[k]? = some x ∧ rest = L.drop (k + 1) := by
  constructor
  · have := List.getElem?_drop (xs := L) (i := k) (j := 0)
    rw [← e] at this
    simpa using this.symm
  · rw [← List.drop_drop, ← e]; rfl
theorem zipIdx_at {b n k : Nat} {x : Value × Nat} (h : ((itsOf b n).zipIdx)[k]? = some x) : x = (.ref (b + k), k) ∧ k < n := by
  rw [List.getElem?_zipIdx] at h
  cases e : (itsOf b n)[k]? with
  | none => rw [e] at h; simp at h
  | some v =>
    have hk : k < n := by have := (List.getElem?_eq_some_iff.mp e).1; rw [its_len] at this; exact this
    rw [its_at hk] at e
    cases e
    rw [its_at hk] at h
    simp at h
    exact ⟨h.symm, hk⟩
set_option maxHeartbeats 4000000 in
theorem next_item {b : Nat} {rows : List Addr} {f0 : Value} {f1 : Bool} {i : Nat} {col : List Value} {Q : Value → Shared → Prop} (st : St0 kd s.heap b rows f0 f1 (fun _ => i)) (hf : f0 = .none ∨ ∃ a : Nat, f0 = rawInt a) (hn : 0 < rows.length) (hn2 : rows.length ≤ 1000)
    (hr : ∀ row ∈ rows, row < b) (hc : col.length = rows.length) (hx : ∀ (k : Nat) (row : Addr), rows[k]? = some row → ∃ (items : Array Value) (x : Value), SeqK (kd k) s.heap row items ∧ items[i]? = some x ∧ col[k]? = some x)
    (hQ : ∀ h' f0' f1', St0 kd h' b rows f0' f1' (fun _ => i + 1) → (f0' = .none ∨ ∃ a : Nat, f0' = rawInt a) → TAt h' s.heap.objs.size col → h'.objs.size = s.heap.objs.size + 1 → Off b rows.length s.heap h' → Q (.ref s.heap.objs.size) { s with heap := h' }) :
    wpAny (model prog w) A (Builtin.«zip.__next__» ⟨[.ref (b + rows.length + 2)], []⟩) (fun fin s' => ∃ v, fin = .done (.ret v) ∧ Q v s') E s := by
  show wpAny _ _ (field (.ref (b + rows.length + 2)) 2 >>= _) _ _ _
  refine wpAny_bind (wpAny_field st.zip rfl (x := .bool false) rfl ?_)
  show wpAny _ _ (field (.ref (b + rows.length + 2)) 3 >>= _) _ _ _
  refine wpAny_bind (wpAny_field st.zip rfl (x := .ref (b + rows.length)) rfl ?_)
  refine wpAny_bind (wpAny_seqItems st.ti rfl ?_)
  have hem : (itsOf b rows.length).toArray.isEmpty = false := by
    have := its_len b rows.length
    cases e : itsOf b rows.length with
    | nil => rw [e] at this; simp at this; omega
    | cons _ _ => rfl
  dsimp only
  rw [if_neg (by rw [hem]; exact Bool.false_ne_true)]
  refine wpAny_bind (wpAny_mono (own_free st.zip hf) (fun r s1 h1 => ?_) (fun _ _ x => x))
  have hlt : b + rows.length + 2 < s.heap.objs.size := Heap.lt_size st.zip
  rcases h1 with ⟨rfl, rfl⟩ | ⟨rfl, h1, rfl, hz1, hs1⟩
  · -- the tuple that it keeps is free
    rw [if_pos rfl]
    refine wpAny_bind (wpAny_rule ?_)
    refine wpAny_bind (wpAny_field st.zip rfl (x := .ref (b + rows.length + 1)) rfl ?_)
    refine wpAny_bind (wpAny_setField_rec st.zip (by simp) fun h2 hz2 hs2 => ?_)
    replace hz2 : ZAt h2 (b + rows.length + 2) (b + rows.length) (b + rows.length + 1) .ellipsis f1 := hz2
    refine wpAny_bind (wpAny_mono (wpAny_forIn_list _ (fun rest bb s' => ∃ k, rest = ((itsOf b rows.length).zipIdx).drop k ∧ bb = (none, ()) ∧ Half kd s1 b rows i col .ellipsis f1 k s')
      (fun bb s' => bb = (none, ()) ∧ Half kd s1 b rows i col .ellipsis f1 rows.length s') ?turn ?fin _ _ ?start) ?after (fun _ _ x => x))
    case start =>
      obtain ⟨kept, hk1, hk2⟩ := st.to
      refine ⟨0, rfl, rfl, ⟨h2, rfl, hs2.1, Off.but hs2 (by omega), hz2, ?_, ⟨kept, hk1, ?_, by simp⟩, fun j row hj => ?_⟩⟩
      · show h2.get? _ = _
        rw [hs2.2 _ (ne_nat (by omega))]; exact st.ti
      · show h2.get? _ = _
        rw [hs2.2 _ (ne_nat (by omega))]; exact hk2
      · have hj' := (List.getElem?_eq_some_iff.mp hj).1
        obtain ⟨o, ho, r⟩ := st.it j row hj
        exact ⟨o, by rw [hs2.2 _ (ne_nat (by omega))]; exact ho, by simpa using r⟩
    case fin =>
      rintro bb s' ⟨k, e, rfl, hh⟩
      refine ⟨rfl, ?_⟩
      have hk : rows.length ≤ k := by
        have := congrArg List.length e
        rw [List.length_drop, List.length_zipIdx, its_len] at this
        simp at this
        omega
      obtain ⟨h', e1, e2, e3, e4, e5, ⟨kept, e6, e7, e8⟩, e9⟩ := hh.ex
      refine ⟨h', e1, e2, e3, e4, e5, ⟨kept, e6, e7, ?_⟩, fun j row hj => ?_⟩
      · rw [List.take_of_length_le (by omega), List.take_of_length_le (by omega)] at e8 ⊢
        exact e8
      · have := e9 j row hj
        have hj' := (List.getElem?_eq_some_iff.mp hj).1
        rw [if_pos (show j < k by omega)] at this
        rw [if_pos hj']; exact this
    case turn =>
      rintro x rest bb s' ⟨k, e, rfl, hh⟩
      obtain ⟨e1, e2⟩ := cons_drop e
      obtain ⟨rfl, hk⟩ := zipIdx_at e1
      obtain ⟨h', rfl, hsz, hoff, hz', hti', ⟨kept, hk1, hk2, hk3⟩, hits⟩ := hh.ex
      obtain ⟨row, hrow⟩ : ∃ row, rows[k]? = some row := ⟨rows[k], List.getElem?_eq_getElem hk⟩
      obtain ⟨items, v, hI, hv, hcv⟩ := hx k row hrow
      have hit := hits k row hrow
      rw [if_neg (Nat.lt_irrefl _)] at hit
      dsimp only
      refine wpAny_bind (wpAny_onRaise ?_)
      show wpAny _ _ (Builtin.SmallTypes.nextOf (.ref (b + k)) >>= _) _ _ _
      refine wpAny_bind (nextOf_item (s := { s1 with heap := h' }) hit (tuple_off hoff (hr row (List.mem_of_getElem? hrow)) hI) hv fun h3 hit3 hs3 => wpAny_pure ?_)
      dsimp only
      have hto3 : TAt h3 (b + rows.length + 1) kept := by
        show h3.get? _ = _
        rw [hs3.2 _ (ne_nat (by omega))]; exact hk2
      refine wpAny_bind (wpAny_seqItems (s := { s1 with heap := h3 }) hto3 rfl ?_)
      dsimp only
      refine wpAny_bind (wpAny_updateSeq (s := { s1 with heap := h3 }) hto3 rfl ?_ (by rw [List.size_toArray]; have := Pv.rLenQ; exact Nat.le_trans (by omega) (show 1000 ≤ sizeLine by decide)) (by simp only [Array.size_setIfInBounds, List.size_toArray]; exact Nat.le_trans (by omega) (show 1000 ≤ sizeLine + 1 by decide)))
      refine wpAny_bind (wpAny_letGo (wpAny_pure ?_))
      have hs4 : Heap.SameBut (b + rows.length + 1) h3 (h3.update (b + rows.length + 1) (Obj.mapSeq fun x => x.setIfInBounds k v)) := Heap.SameBut.update ..
      generalize hh4 : h3.update (b + rows.length + 1) (Obj.mapSeq fun x => x.setIfInBounds k v) = h4 at hs4
      have hto4 : TAt h4 (b + rows.length + 1) (kept.set k v) := by
        show h4.get? _ = _
        rw [← hh4, Heap.get?_update_self _ hto3 rfl]
        simp [Obj.mapSeq]
      refine ⟨k + 1, e2, rfl, ⟨h4, rfl, ?_, ?_, ?_, ?_, ⟨kept.set k v, ?_, hto4, ?_⟩, fun j row' hj => ?_⟩⟩
      · rw [hs4.1, hs3.1]; exact hsz
      · exact hoff.trans ((Off.but hs3 (by omega)).trans (Off.but hs4 (by omega)))
      · show h4.get? _ = _
        rw [hs4.2 _ (ne_nat (by omega)), hs3.2 _ (ne_nat (by omega))]; exact hz'
      · show h4.get? _ = _
        rw [hs4.2 _ (ne_nat (by omega)), hs3.2 _ (ne_nat (by omega))]; exact hti'
      · rw [List.length_set]; exact hk1
      · rw [List.take_add_one, List.take_add_one, hcv, List.getElem?_set_self (by omega), ← hk3, List.take_set_of_le (Nat.le_refl _)]
      · have hj' := (List.getElem?_eq_some_iff.mp hj).1
        by_cases hjk : j = k
        · subst hjk
          rw [hrow] at hj
          cases hj
          rw [if_pos (Nat.lt_succ_self _)]
          obtain ⟨o, ho, r⟩ := hit3
          exact ⟨o, by rw [hs4.2 _ (ne_nat (by omega))]; exact ho, r⟩
        · obtain ⟨o, ho, r⟩ := hits j row' hj
          refine ⟨o, by rw [hs4.2 _ (ne_nat (by omega)), hs3.2 _ (fun z => hjk (Nat.add_left_cancel z))]; exact ho, ?_⟩
          by_cases hlt' : j < k
          · rw [if_pos hlt'] at r; rw [if_pos (show j < k + 1 by omega)]; exact r
          · rw [if_neg hlt'] at r; rw [if_neg (show ¬ j < k + 1 by omega)]; exact r
    case after =>
      rintro bb s' ⟨rfl, hh⟩
      obtain ⟨h', rfl, hsz, hoff, hz', hti', ⟨kept, hk1, hk2, hk3⟩, hits⟩ := hh.ex
      rw [List.take_of_length_le (by omega), List.take_of_length_le (by omega)] at hk3
      subst hk3
      dsimp only
      refine wpAny_bind (wpAny_seqItems (s := { s1 with heap := h' }) hk2 rfl ?_)
      dsimp only
      refine wpAny_bind (wpAny_newTuple (s := { s1 with heap := h' }) ?_ (by show kept.toArray.toList.length ≤ sizeLine; rw [List.toList_toArray]; exact Nat.le_trans (show kept.length ≤ 1000 by omega) (by decide)))
      dsimp only
      rw [hsz]
      refine wpAny_bind ?_
      unfold Builtin.SmallTypes.ownedTupleHandOut
      have hz6 : ZAt (h'.push { cls := .type "tuple", data := .seq kept.toArray.toList.toArray }) (b + rows.length + 2) (b + rows.length) (b + rows.length + 1) .ellipsis f1 := Heap.get?_push_of_some _ hz'
      refine wpAny_bind (wpAny_setField_rec (s := { s1 with heap := h'.push { cls := .type "tuple", data := .seq kept.toArray.toList.toArray } }) hz6 (by simp) fun h7 hz7 hs7 => ?_)
      replace hz7 : ZAt h7 (b + rows.length + 2) (b + rows.length) (b + rows.length + 1) (rawInt s1.heap.objs.size) f1 := hz7
      refine wpAny_setField_rec (s := { s1 with heap := h7 }) hz7 (by simp) fun h8 hz8 hs8 => ?_
      replace hz8 : ZAt h8 (b + rows.length + 2) (b + rows.length) (b + rows.length + 1) (rawInt s1.heap.objs.size) false := hz8
      have up : ∀ c o, c ≠ b + rows.length + 2 → h'.get? c = some o → h8.get? c = some o := fun c o c1 e => by
        rw [hs8.2 _ c1, hs7.2 _ c1]; exact Heap.get?_push_of_some _ e
      refine wpAny_pure ⟨_, rfl, hQ h8 _ false ⟨hz8, up _ _ (ne_nat (by omega)) hti', ⟨kept, hk1, up _ _ (ne_nat (by omega)) hk2⟩, fun k row hk => ?_⟩ (.inr ⟨_, rfl⟩) ?_ ?_ ?_⟩
      · have hk' := (List.getElem?_eq_some_iff.mp hk).1
        have := hits k row hk
        rw [if_pos hk'] at this
        obtain ⟨o, ho, r⟩ := this
        exact ⟨o, up _ _ (ne_nat (by omega)) ho, r⟩
      · show h8.get? _ = _
        rw [hs8.2 _ (ne_nat (by omega)), hs7.2 _ (ne_nat (by omega)), ← hsz]
        exact Heap.get?_push_size _ rfl
      · rw [hs8.1, hs7.1, Heap.size_push, hsz]
      · intro c o r e
        exact up c o (ne_nat (by omega)) (hoff c o r e)
  · -- it is not
    rw [if_neg Bool.false_ne_true]
    have hti1 : TAt h1 (b + rows.length) (itsOf b rows.length) := by
      show h1.get? _ = _
      rw [hs1.2 _ (ne_nat (by omega))]; exact st.ti
    try dsimp only
    refine wpAny_bind (wpAny_mono (MeetsSeq2.wpAny_forIn_array _ (fun rest bb s' => ∃ k, rest = (itsOf b rows.length).drop k ∧ bb = (none, (col.take k).toArray) ∧ ∃ h', s' = { s with heap := h' } ∧ h'.objs.size = s.heap.objs.size ∧ Off b rows.length s.heap h' ∧
        ZAt h' (b + rows.length + 2) (b + rows.length) (b + rows.length + 1) f0 true ∧ TAt h' (b + rows.length) (itsOf b rows.length) ∧ (∃ kept : List Value, kept.length = rows.length ∧ TAt h' (b + rows.length + 1) kept) ∧ ∀ (j : Nat) (row : Addr), rows[j]? = some row → IterK (kd j) h' (b + j) row (if j < k then i + 1 else i))
      (fun bb s' => bb = (none, col.toArray) ∧ ∃ h', s' = { s with heap := h' } ∧ h'.objs.size = s.heap.objs.size ∧ Off b rows.length s.heap h' ∧ St0 kd h' b rows f0 true (fun _ => i + 1)) ?turn ?fin _ _ ?start) ?after (fun _ _ x => x))
    case start =>
      obtain ⟨kept, hk1, hk2⟩ := st.to
      refine ⟨0, by simp, by simp, h1, rfl, hs1.1, Off.but hs1 (by omega), hz1, hti1, ⟨kept, hk1, ?_⟩, fun j row hj => ?_⟩
      · show h1.get? _ = _
        rw [hs1.2 _ (ne_nat (by omega))]; exact hk2
      · have hj' := (List.getElem?_eq_some_iff.mp hj).1
        obtain ⟨o, ho, r⟩ := st.it j row hj
        exact ⟨o, by rw [hs1.2 _ (ne_nat (by omega))]; exact ho, by simpa using r⟩
    case fin =>
      rintro bb s' ⟨k, e, rfl, h', rfl, e2, e3, e4, e5, e6, e7⟩
      have hk : rows.length ≤ k := by
        have := congrArg List.length e
        rw [List.length_drop, its_len] at this
        simp at this
        omega
      refine ⟨by rw [List.take_of_length_le (by omega)], h', rfl, e2, e3, e4, e5, e6, fun j row hj => ?_⟩
      have := e7 j row hj
      have hj' := (List.getElem?_eq_some_iff.mp hj).1
      rw [if_pos (show j < k by omega)] at this
      exact this
    case turn =>
      rintro x rest bb s' ⟨k, e, rfl, h', rfl, hsz, hoff, hz', hti', hto', hits⟩
      obtain ⟨e1, e2⟩ := cons_drop e
      have hk : k < rows.length := by have := (List.getElem?_eq_some_iff.mp e1).1; rw [its_len] at this; exact this
      rw [its_at hk] at e1
      cases e1
      obtain ⟨row, hrow⟩ : ∃ row, rows[k]? = some row := ⟨rows[k], List.getElem?_eq_getElem hk⟩
      obtain ⟨items, v, hI, hv, hcv⟩ := hx k row hrow
      have hit := hits k row hrow
      rw [if_neg (Nat.lt_irrefl _)] at hit
      dsimp only
      refine wpAny_bind (wpAny_holding ?_)
      show wpAny _ _ (Builtin.SmallTypes.nextOf (.ref (b + k)) >>= _) _ _ _
      refine wpAny_bind (nextOf_item (s := { s with heap := h' }) hit (tuple_off hoff (hr row (List.mem_of_getElem? hrow)) hI) hv fun h3 hit3 hs3 => wpAny_pure ?_)
      dsimp only
      refine wpAny_pure ⟨k + 1, e2, ?_, h3, rfl, ?_, ?_, ?_, ?_, ?_, fun j row' hj => ?_⟩
      · rw [List.take_add_one, hcv]; simp
      · rw [hs3.1]; exact hsz
      · exact hoff.trans (Off.but hs3 (by omega))
      · show h3.get? _ = _
        rw [hs3.2 _ (ne_nat (by omega))]; exact hz'
      · show h3.get? _ = _
        rw [hs3.2 _ (ne_nat (by omega))]; exact hti'
      · obtain ⟨kept, hk1, hk2⟩ := hto'
        exact ⟨kept, hk1, by show h3.get? _ = _; rw [hs3.2 _ (ne_nat (by omega))]; exact hk2⟩
      · have hj' := (List.getElem?_eq_some_iff.mp hj).1
        by_cases hjk : j = k
        · subst hjk
          rw [hrow] at hj
          cases hj
          rw [if_pos (Nat.lt_succ_self _)]
          exact hit3
        · obtain ⟨o, ho, r⟩ := hits j row' hj
          refine ⟨o, by rw [hs3.2 _ (fun z => hjk (Nat.add_left_cancel z))]; exact ho, ?_⟩
          by_cases hlt' : j < k
          · rw [if_pos hlt'] at r; rw [if_pos (show j < k + 1 by omega)]; exact r
          · rw [if_neg hlt'] at r; rw [if_neg (show ¬ j < k + 1 by omega)]; exact r
    case after =>
      rintro bb s' ⟨rfl, h', rfl, hsz, hoff, st'⟩
      dsimp only
      refine wpAny_bind (wpAny_newTuple (s := { s with heap := h' }) ?_ (by show col.toArray.toList.length ≤ sizeLine; rw [List.toList_toArray]; exact Nat.le_trans (show col.length ≤ 1000 by omega) (by decide)))
      dsimp only
      rw [hsz]
      have up : ∀ c o, h'.get? c = some o → (h'.push { cls := .type "tuple", data := .seq col.toArray.toList.toArray }).get? c = some o := fun c o e => Heap.get?_push_of_some _ e
      refine wpAny_pure ⟨_, rfl, hQ _ _ true ⟨up _ _ st'.zip, up _ _ st'.ti, ?_, fun k row hk => ?_⟩ hf ?_ ?_ ?_⟩
      · obtain ⟨kept, hk1, hk2⟩ := st'.to
        exact ⟨kept, hk1, up _ _ hk2⟩
      · obtain ⟨o, ho, r⟩ := st'.it k row hk
        exact ⟨o, up _ _ ho, r⟩
      · rw [← hsz]; exact Heap.get?_push_size _ rfl
      · rw [Heap.size_push, hsz]
      · intro c o r e
        exact up _ _ (hoff c o r e)
end
end ZM

namespace ZM
open PySem
section
variable {prog : Program} {w : World} {A : Around} {E : Value → Shared → Prop} {s : Shared} {kd : Nat → Bool}
theorem its_cons {b n : Nat} (h : 0 < n) : ∃ rest, itsOf b n = .ref (b + 0) :: rest := by
  cases e : itsOf b n with
  | nil => have := its_len b n; rw [e] at this; simp at this; omega
  | cons x rest =>
    have := its_at (b := b) h
    rw [e] at this
    simp at this
    exact ⟨rest, by rw [this]; rfl⟩
set_option maxHeartbeats 4000000 in
theorem next_end {b : Nat} {rows : List Addr} {f0 : Value} {f1 : Bool} {i : Nat} {row : Addr} {items : Array Value} {Q : Fin → Shared → Prop} (hh : A.handled = none) (st : St0 kd s.heap b rows f0 f1 (fun _ => i)) (hf : f0 = .none ∨ ∃ a : Nat, f0 = rawInt a)
    (hr0 : rows[0]? = some row) (hrb : row < b) (hI : SeqK (kd 0) s.heap row items) (hx : items[i]? = none)
    (hE : ∀ h' e, Off b rows.length s.heap h' → (∃ o, h'.get? e = some o ∧ o.cls = .type "StopIteration") → E (.ref e) { s with heap := h' }) :
    wpAny (model prog w) A (Builtin.«zip.__next__» ⟨[.ref (b + rows.length + 2)], []⟩) Q E s := by
  have hn : 0 < rows.length := (List.getElem?_eq_some_iff.mp hr0).1
  obtain ⟨rest, hits⟩ := its_cons (b := b) hn
  show wpAny _ _ (field (.ref (b + rows.length + 2)) 2 >>= _) _ _ _
  refine wpAny_bind (wpAny_field st.zip rfl (x := .bool false) rfl ?_)
  show wpAny _ _ (field (.ref (b + rows.length + 2)) 3 >>= _) _ _ _
  refine wpAny_bind (wpAny_field st.zip rfl (x := .ref (b + rows.length)) rfl ?_)
  refine wpAny_bind (wpAny_seqItems st.ti rfl ?_)
  have hem : (itsOf b rows.length).toArray.isEmpty = false := by rw [hits]; rfl
  dsimp only
  rw [if_neg (by rw [hem]; exact Bool.false_ne_true)]
  refine wpAny_bind (wpAny_mono (own_free st.zip hf) (fun r s1 h1 => ?_) (fun _ _ x => x))
  have hlt : b + rows.length + 2 < s.heap.objs.size := Heap.lt_size st.zip
  have hit := st.it 0 row hr0
  rcases h1 with ⟨rfl, rfl⟩ | ⟨rfl, h1, rfl, hz1, hs1⟩
  · rw [if_pos rfl]
    refine wpAny_bind (wpAny_rule ?_)
    refine wpAny_bind (wpAny_field st.zip rfl (x := .ref (b + rows.length + 1)) rfl ?_)
    refine wpAny_bind (wpAny_setField_rec st.zip (by simp) fun h2 hz2 hs2 => ?_)
    replace hz2 : ZAt h2 (b + rows.length + 2) (b + rows.length) (b + rows.length + 1) .ellipsis f1 := hz2
    have o2 : Off b rows.length s1.heap h2 := Off.but hs2 (by omega)
    have hit2 : IterK (kd 0) h2 (b + 0) row i := by
      obtain ⟨o, ho, r⟩ := hit
      exact ⟨o, by rw [hs2.2 _ (ne_nat (by omega))]; exact ho, r⟩
    refine wpAny_bind ?_
    have hz0 : (itsOf b rows.length).toArray.toList.zipIdx = (.ref (b + 0), 0) :: rest.zipIdx 1 := by rw [hits]; rfl
    rw [hz0, List.forIn_cons]
    refine wpAny_bind (wpAny_bind (wpAny_onRaise ?_))
    show wpAny _ _ (Builtin.SmallTypes.nextOf (.ref (b + 0)) >>= _) _ _ _
    refine wpAny_bind (nextOf_end (s := { s1 with heap := h2 }) hh hit2 (tuple_off o2 hrb hI) hx fun h3 e hs3 he => ?_)
    obtain ⟨oe, hoe, hce⟩ := he
    have hz3 : ZAt h3 (b + rows.length + 2) (b + rows.length) (b + rows.length + 1) .ellipsis f1 := hs3 _ _ (ne_nat (by omega)) hz2
    have hez : e ≠ b + rows.length + 2 := fun x => by subst x; rw [hz3] at hoe; cases hoe; simp at hce
    refine wpAny_setField_rec (s := { s1 with heap := h3 }) hz3 (by simp) fun h4 _ hs4 => hE h4 e (fun c o r x => ?_) ⟨oe, by rw [hs4.2 _ hez]; exact hoe, hce⟩
    rw [hs4.2 _ (ne_nat (by omega))]
    exact hs3 _ _ (ne_nat (by omega)) (o2 c o r x)
  · rw [if_neg Bool.false_ne_true]
    have o1 : Off b rows.length s.heap h1 := Off.but hs1 (by omega)
    have hit1 : IterK (kd 0) h1 (b + 0) row i := by
      obtain ⟨o, ho, r⟩ := hit
      exact ⟨o, by rw [hs1.2 _ (ne_nat (by omega))]; exact ho, r⟩
    try dsimp only
    refine wpAny_bind ?_
    rw [← Array.forIn_toList, List.toList_toArray, hits, List.forIn_cons]
    refine wpAny_bind (wpAny_bind (wpAny_holding ?_))
    show wpAny _ _ (Builtin.SmallTypes.nextOf (.ref (b + 0)) >>= _) _ _ _
    refine wpAny_bind (nextOf_end (s := { s with heap := h1 }) hh hit1 (tuple_off o1 hrb hI) hx fun h3 e hs3 he => hE h3 e (fun c o r x => ?_) he)
    exact hs3 _ _ (ne_nat (by omega)) (o1 c o r x)
theorem pyNext_item {b : Nat} {rows : List Addr} {f0 : Value} {f1 : Bool} {i : Nat} {col : List Value} {Q : Option Value → Shared → Prop} (st : St0 kd s.heap b rows f0 f1 (fun _ => i)) (hf : f0 = .none ∨ ∃ a : Nat, f0 = rawInt a) (hn : 0 < rows.length) (hn2 : rows.length ≤ 1000)
    (hr : ∀ row ∈ rows, row < b) (hc : col.length = rows.length) (hx : ∀ (k : Nat) (row : Addr), rows[k]? = some row → ∃ (items : Array Value) (x : Value), SeqK (kd k) s.heap row items ∧ items[i]? = some x ∧ col[k]? = some x)
    (hQ : ∀ h' f0' f1', St0 kd h' b rows f0' f1' (fun _ => i + 1) → (f0' = .none ∨ ∃ a : Nat, f0' = rawInt a) → TAt h' s.heap.objs.size col → h'.objs.size = s.heap.objs.size + 1 → Off b rows.length s.heap h' → Q (some (.ref s.heap.objs.size)) { s with heap := h' }) :
    wpAny (model prog w) A (pyNext (.ref (b + rows.length + 2))) Q E s := by
  have hT : s.TypeIs (.ref (b + rows.length + 2)) "zip" := ⟨_, st.zip, rfl⟩
  unfold pyNext
  exact wpAny_bind (wpAny_attempt (wpAny_callSpecial?_slot (name := Str.ofString "__next__") hT F.slot_zip_next
    (wpAny_call_entry F.slot_zip_next hT F.entry_zip_next
      (next_item st hf hn hn2 hr hc hx fun h' a b' a1 a2 a3 a4 a5 => wpAny_pure (hQ h' a b' a1 a2 a3 a4 a5)) (F.args_zip_next_1 _))))
theorem pyNext_end {b : Nat} {rows : List Addr} {f0 : Value} {f1 : Bool} {i : Nat} {row : Addr} {items : Array Value} {Q : Option Value → Shared → Prop} (hh : A.handled = none) (st : St0 kd s.heap b rows f0 f1 (fun _ => i)) (hf : f0 = .none ∨ ∃ a : Nat, f0 = rawInt a)
    (hr0 : rows[0]? = some row) (hrb : row < b) (hI : SeqK (kd 0) s.heap row items) (hx : items[i]? = none) (hQ : ∀ h', Off b rows.length s.heap h' → Q none { s with heap := h' }) :
    wpAny (model prog w) A (pyNext (.ref (b + rows.length + 2))) Q E s := by
  have hT : s.TypeIs (.ref (b + rows.length + 2)) "zip" := ⟨_, st.zip, rfl⟩
  unfold pyNext
  refine wpAny_bind (wpAny_attempt (wpAny_callSpecial?_slot (name := Str.ofString "__next__") hT F.slot_zip_next
    (wpAny_call_entry F.slot_zip_next hT F.entry_zip_next (next_end hh st hf hr0 hrb hI hx fun h' e hk he => ?_) (F.args_zip_next_1 _))))
  obtain ⟨o, ho, hc⟩ := he
  refine wpAny_bind (wpAny_isInstance (T := "StopIteration") (b := true) ⟨o, ho, hc⟩ isSubtype_stop ?_)
  exact wpAny_pure (hQ _ hk)
theorem pyIter_zip {z TI TO : Addr} {f0 : Value} {f1 : Bool} {Q : Value → Shared → Prop} (hz : ZAt s.heap z TI TO f0 f1) (h : Q (.ref z) s) : wpAny (model prog w) A (pyIter (.ref z)) Q E s := by
  have hT : s.TypeIs (.ref z) "zip" := ⟨_, hz, rfl⟩
  refine wpAny_pyIter_slot hT F.slot_zip_iter (wpAny_call_entry F.slot_zip_iter hT F.entry_zip_iter ?_ (F.args_zip_iter_1 _))
  show wpAny _ _ (ret (.ref z)) _ _ s
  exact wpAny_pure ⟨_, rfl, "zip", _, hT, F.slot_zip_next.lookup, h⟩
end
end ZM

namespace Pv
open PySem PySem.Spec PyProof.Rows L2
/-! for y in zip(a list, a tuple): a new pair at each turn -/
def ItE (K : PySem.W.Frag) (a b : Addr) : It :=
  ⟨fun i H => ∃ xs ys x y, SqL K H a xs ∧ SqT K H b ys ∧ xs[i]? = some x ∧ ys[i]? = some y,
    fun i H v H' => ∃ (T : Addr) (x y : V), v = .ref T ∧ H T = none ∧ H' = upd H T (.tup [x, y]) ∧ (∀ xs, SqL K H a xs → xs[i]? = some x) ∧ ∀ ys, SqT K H b ys → ys[i]? = some y,
    fun i H => ∃ xs, SqL K H a xs ∧ xs.length ≤ i⟩
def kdE : Nat → Bool := fun k => decide (k = 0)
theorem turn_zipE {P : Program} {w : World} {K : PySem.W.Frag} {y : Str} {py : Pos} {b : Nat} {l t : Addr} (hl : l < b) (ht : t < b) :
    Turn P w K (.Name y py) (ItE K l t) (ownZ b 2) (b + 4) (fun i h => ∃ f0 f1, ZM.St0 kdE h b [l, t] f0 f1 (fun _ => i) ∧ (f0 = .none ∨ ∃ a : Nat, f0 = rawInt a)) where
  mem := ownZ_mem.mpr (by omega)
  obj := fun i h st c hc => by
    obtain ⟨f0, f1, st, _⟩ := st
    obtain ⟨k, hk, rfl⟩ := List.mem_map.mp hc
    rw [List.mem_range] at hk
    match k, hk with
    | 0, _ => obtain ⟨o, ho, _, hd⟩ := st.it 0 l rfl; exact ⟨o, ho, fun v q => by rw [hd] at q; cases q⟩
    | 1, _ => obtain ⟨o, ho, _, hd⟩ := st.it 1 t rfl; exact ⟨o, ho, fun v q => by rw [hd] at q; cases q⟩
    | 2, _ => exact ⟨_, st.ti, fun v q => nomatch q⟩
    | 3, _ => obtain ⟨kept, _, e⟩ := st.to; exact ⟨_, e, fun v q => nomatch q⟩
    | 4, _ => exact ⟨_, st.zip, fun v q => nomatch q⟩
    | k + 5, h => omega
  keep := fun i h h' st k => by
    obtain ⟨f0, f1, st, hf⟩ := st
    have k' : ∀ c, b ≤ c → c ≤ b + 2 + 2 → ∀ o, h.get? c = some o → h'.get? c = some o := fun c h1 h2 o e => k c (ownZ_mem.mpr ⟨h1, h2⟩) o e
    refine ⟨f0, f1, ⟨k' _ (by simp; omega) (by simp) _ st.zip, k' _ (by simp) (by simp) _ st.ti, ?_, fun j row hj => ?_⟩, hf⟩
    · obtain ⟨kept, h1, e⟩ := st.to
      exact ⟨kept, h1, k' _ (by simp; omega) (by simp) _ e⟩
    · have hj' : j < 2 := (List.getElem?_eq_some_iff.mp hj).1
      obtain ⟨o, ho, r⟩ := st.it j row hj
      exact ⟨o, k' _ (by omega) (by omega) _ ho, r⟩
  item := by
    intro X hP hw hK hc i pins s σ H E I hf st hg
    subst hP hw hK
    obtain ⟨f0, f1, st, hfr⟩ := st
    obtain ⟨xs, ys, x, y0, hqx, hqy, hx, hy⟩ := hg
    obtain ⟨its, rv, p, _⟩ := I.list hqx
    obtain ⟨its2, rv2, p2, _⟩ := I.tuple hqy
    obtain ⟨u, hu, ru⟩ := rv.get hx
    obtain ⟨u2, hu2, ru2⟩ := rv2.get hy
    have hlt : b + 2 + 2 < s.heap.objs.size := Heap.lt_size st.zip
    refine ZM.pyNext_item (rows := [l, t]) (col := [u, u2]) st hfr (by simp) (by simp) (fun row hr => ?_) rfl (fun k row hk => ?_) fun h' f0' f1' st' hf' hT hsz hoff => ?_
    · simp only [List.mem_cons, List.not_mem_nil, or_false] at hr
      rcases hr with rfl | rfl
      · exact hl
      · exact ht
    · match k, hk with
      | 0, hk => simp at hk; subst hk; exact ⟨its.toArray, u, p.isList, by simpa using hu, rfl⟩
      | 1, hk => simp at hk; subst hk; exact ⟨its2.toArray, u2, p2, by simpa using hu2, rfl⟩
      | k + 2, hk => simp at hk
    refine ⟨_, rfl, ?_⟩
    unfold letOwnedTupleGo
    refine wpAny_pure ?_
    have new : ObjOk X.prog X.w (upd H s.heap.objs.size (.tup [x, y0])) h' s.heap.objs.size (.tup [x, y0]) :=
      ⟨by show 2 ≤ sizeLine; decide, [u, u2], .cons ru (.cons ru2 .nil), ⟨_, hT, rfl, _, rfl⟩⟩
    have I1 : Inv X pins σ (upd H s.heap.objs.size (.tup [x, y0])) { s with heap := h' } :=
      I.turnedNew (t' := s.toks) (ch := ownZ b 2) (fun c o hb' q => hoff c o (by rw [ownZ_mem] at hb'; simp; omega) q) hf (Nat.le_refl _) new
    refine ⟨.ref s.heap.objs.size, _, I1, rfl, ⟨_, x, y0, rfl, I.hok.fresh (Nat.le_refl _), rfl, fun l hl => by rw [I.list_inj hl hqx]; exact hx, fun l hl => by rw [I.tuple_inj hl hqy]; exact hy⟩, ⟨f0', f1', st', hf'⟩, fun c hcm => ?_⟩
    have hcm2 := hcm
    obtain ⟨k, hk, rfl⟩ := List.mem_map.mp hcm2
    rw [List.mem_range] at hk
    rw [upd_ne (Nat.ne_of_lt (show b + k < s.heap.objs.size by omega))]
    exact (hf _ hcm).1
  done := by
    intro X hP hw hK hc i pins s σ H E I hf st hg
    subst hP hw hK
    obtain ⟨f0, f1, st, hfr⟩ := st
    obtain ⟨xs, hqx, hle⟩ := hg
    obtain ⟨its, rv, p, _⟩ := I.list hqx
    have l1 := rv.length
    exact ZM.pyNext_end (rows := [l, t]) (items := its.toArray) (I.ok.hd hc) st hfr rfl hl p.isList (by simp; omega) fun h' hoff => ⟨rfl, I.turnedL (t' := s.toks) (ch := ownZ b 2) (fun c o hb' q => hoff c o (by rw [ownZ_mem] at hb'; simp; omega) q) hf⟩
  self := fun A i s Q E st h => by
    obtain ⟨f0, f1, st, _⟩ := st
    exact ZM.pyIter_zip st.zip h
def iZipE (K : PySem.W.Frag) (ta : TA) : TI := fun σ H R => ta σ H fun vs H1 => ∃ a b xs ys, vs = [.ref a, .ref b] ∧ SqL K H1 a xs ∧ SqT K H1 b ys ∧ R (ItE K a b) H1
theorem pi_zipE {X : Cx} {e e2 : Expr} {ta : TA} {p pos py : Pos} {y : Str} (hg : Gl X "zip") (hm : X.mg "zip" = none) (ha : PA X [e, e2] ta)
    (hs : starEach [e, e2] X.env = (false, eval e X.env) :: starEach [e2] X.env := by rfl) (hpl : (backTo pos (starEach [e2] X.env)).any (·.1) = false := by rfl) :
    PI X (.Name y py) (.Call (.Name "zip" p) [e, e2] [] pos) (iZipE X.K ta) := by
  refine ⟨fun pins s σ H R I h => Call_ (ld_blt I hg hm PyProof.Rows.boot_zip (PyProof.Rows.callWith_type1 (thn (ha.run pos pins s σ H _ I h) ?_) hs hpl))⟩
  rintro us s1 ⟨vs, H1, I1, r1, a, b, xs, ys, rfl, hqx, hqy, q⟩
  obtain ⟨u, v, rfl, rfl, rfl⟩ := vals2 r1
  obtain ⟨its, rv, p1, _⟩ := I1.list hqx
  obtain ⟨its2, rv2, p2, _⟩ := I1.tuple hqy
  refine call_zipM p1.isList (show s1.heap.IsTuple b its2.toArray from p2) fun h' hz hTI hTO h1 h2 hk => wpAny_pyIter_zip hz ?_
  have I2 : Inv X pins σ H1 { s1 with heap := h' } := I1.kept (t' := s1.toks) hk
  refine ⟨s1.heap.objs.size + 4, ownZ s1.heap.objs.size 2, _, _, H1, rfl, I2, turn_zipE p1.lt (tupLt p2), ⟨.none, false, ⟨hz, hTI, ⟨_, rfl, hTO⟩, fun k row hk' => ?_⟩, .inl rfl⟩, fun c hcm => ?_, q⟩
  · match k, hk' with
    | 0, hk' => simp at hk'; subst hk'; exact h1
    | 1, hk' => simp at hk'; subst hk'; exact h2
    | k + 2, hk' => simp at hk'
  · have hle := (ownZ_mem.mp hcm).1
    exact I1.fpOk hle (I1.hok.fresh hle)
theorem walk_zipE {K : PySem.W.Frag} {a b : Addr} {xs ys : List V} (hn : xs.length = ys.length) :
    Walk (ItE K a b) xs.length (fun H => SqL K H a xs ∧ SqT K H b ys) (YPair (fun i => xs[i]?) (fun i => ys[i]?)) := by
  constructor
  · rintro i H hi ⟨q1, q2⟩
    exact ⟨xs, ys, xs[i], ys[i]'(by omega), q1, q2, List.getElem?_eq_getElem hi, List.getElem?_eq_getElem (by omega)⟩
  · rintro H ⟨q1, q2⟩
    exact ⟨xs, q1, Nat.le_refl _⟩
  · rintro i H v H' _ ⟨q1, q2⟩ ⟨T, x, z, h1, h2, h3, h4, h5⟩
    exact ⟨T, x, z, h1, h2, h3, h4 xs q1, h5 ys q2⟩
end Pv

namespace Pv
open PySem PySem.Spec PyProof.Rows L2
/-! the least of a tuple of ints -/
def rMinT (K : PySem.W.Frag) : RC := fun xs H Q => ∃ (a : Addr) (ns : List Int), xs = [.ref a] ∧ SqT K H a (ns.map V.int) ∧ 0 < ns.length ∧ ∀ m, m ∈ ns → (∀ y ∈ ns, m ≤ y) → Q (.int m) H
theorem call_minT {X : Cx} (hc : X.calm = true) : CallR X (.builtin "min") (rMinT X.K) := by
  intro pins s σ H xs us Q I r h
  obtain ⟨a, ns, rfl, hT, hne, q⟩ := h
  obtain ⟨u, rfl, rfl⟩ := vals1 r
  obtain ⟨its, rv, ht, hz⟩ := I.tuple hT
  have hi : IntsAre its ns := rv.ints
  obtain ⟨ys, e⟩ := hi.allInts.items
  have hn : numsOf (intItems ys).toList = ns := by rw [← e]; exact hi.numsOf
  rw [nums_intItems] at hn
  rw [e] at ht
  subst hn
  have hsz : 0 < ys.size := by simpa using hne
  have ht' : s.heap.IsTuple a (intItems ys) := ht
  have hlt : a < s.heap.objs.size := by obtain ⟨_, z, _⟩ := ht; exact Heap.lt_size z
  refine call_min_walk (wpAny_pyIter_tuple ht' ?_)
  refine ⟨_, _, _, _, _, _, _, rfl, Walks.tuple (A := X.A.in1) (I.ok.hd hc) _ a (Nat.ne_of_lt hlt) (intItems ys), ⟨⟨_, Heap.get?_push_size _ rfl, rfl, rfl⟩, ht'.push _⟩, ?_, by simpa [intItems] using hsz, CmpOf.ints_lt (numAt ys) (fun _ _ => intItems_at), ?_⟩
  · intro b hb
    show b < (s.heap.push _).objs.size
    rw [Heap.size_push]
    simp only [List.mem_cons, List.not_mem_nil, or_false] at hb
    rcases hb with rfl | rfl
    · exact Nat.lt_succ_self _
    · exact Nat.lt_succ_of_lt hlt
  · intro v h' tk hP hk
    have hP' : (intItems ys)[argBest (fun i j => decide (numAt ys i < numAt ys j)) (ys.size - 1)]? = some v := by simpa [intItems] using hP
    obtain ⟨t, rfl⟩ := intItems_at hP'
    obtain ⟨h1, h2⟩ := argBest_lt (numAt ys) (ys.size - 1)
    refine ⟨.int _, H, I.kept (t' := tk) (h' := h') ?_, ⟨_, rfl⟩, q _ ?_ ?_⟩
    · intro b o eb
      refine hk b o (fun hm => ?_) (Heap.get?_push_of_some _ eb)
      exact absurd (Heap.lt_size eb) ((List.mem_singleton.mp hm) ▸ Nat.lt_irrefl _)
    · rw [numAt_eq]; exact PySem.getD_mem (by rw [List.length_map, Array.length_toList]; omega)
    · intro y hy
      obtain ⟨j, hj, rfl⟩ := mem_getD hy
      rw [List.length_map, Array.length_toList] at hj
      rw [← numAt_eq]; exact h2 j (by omega)
/-- min(a, b, c) of ints -/
theorem nuMin2_int (a b : Int) : nuMin2 (.int a) (.int b) = some (.int (if b < a then b else a)) := by
  have e : nuLt (.int b) (.int a) = some (decide (b < a)) := rfl
  unfold nuMin2
  rw [e]
  by_cases h : b < a <;> simp [h]
theorem nuMin3_int (a b c : Int) : nuMin3 (.int a) (.int b) (.int c) = some (.int (if c < (if b < a then b else a) then c else (if b < a then b else a))) := by
  unfold nuMin3
  rw [nuMin2_int]
  exact nuMin2_int _ c
end Pv

namespace Pv
open PySem PySem.Spec PyProof.Rows L2
abbrev sLu : Stmt := topS 54
theorem scLu : FnScope ["_law_instance_here", "_law_assignment_here", "_law_served", "_law_group", "_law_numbers", "_law_second", "_law_first", "_law_k", "_law_pair"] ["_law_instance_here", "_law_assignment_here"] (defScope sLu) := ⟨rfl, rfl, rfl, by decide +kernel, rfl, by decide +kernel, by decide +kernel⟩
theorem iteTr {b : Bool} {p q : Prop} (h : b = true) (x : p) : if b = true then p else q := by rw [if_pos h]; exact x
def onlyG (cs : List Int) (gs : List Gp) (g : Gp) (row : List Int) (k : Nat) : Option V := if (decide (0 < row.getD k 0) && !decide (k = 0 ∨ k = resC cs gs g)) = true then some (.int (k : Nat)) else none
theorem onlyG_nil {cs : List Int} {gs : List Gp} {g : Gp} {row : List Int} : ∃ ks : List Int, (List.range row.length).filterMap (onlyG cs gs g row) = ks.map V.int ∧ decide (ks = []) = onlyB cs gs [(g, row)] := by
  unfold onlyB
  simp only [List.all_cons, List.all_nil, Bool.and_true]
  generalize List.range row.length = l
  induction l with
  | nil => exact ⟨[], rfl, rfl⟩
  | cons k l ih =>
    obtain ⟨ks, h1, h2⟩ := ih
    by_cases e : (decide (0 < row.getD k 0) && !decide (k = 0 ∨ k = resC cs gs g)) = true
    · refine ⟨(k : Int) :: ks, ?_, ?_⟩
      · rw [List.filterMap_cons_some (by unfold onlyG; rw [if_pos e]), h1]; rfl
      · rw [Bool.and_eq_true] at e
        have e2 : decide (k = 0 ∨ k = resC cs gs g) = false := by have := e.2; cases hd : decide (k = 0 ∨ k = resC cs gs g) <;> simp_all
        rw [List.all_cons, e2, e.1]; rfl
    · refine ⟨ks, ?_, ?_⟩
      · rw [List.filterMap_cons_none (by unfold onlyG; rw [if_neg e])]; exact h1
      · rw [List.all_cons]
        have : (decide (k = 0 ∨ k = resC cs gs g) || !decide (0 < row.getD k 0)) = true := by
          cases h3 : decide (k = 0 ∨ k = resC cs gs g) with
          | true => rfl
          | false => cases h4 : decide (0 < row.getD k 0) with
            | false => rfl
            | true => exact absurd (by rw [h3, h4]; rfl) e
        rw [this, Bool.true_and]; exact h2
theorem met_zip (cs : List Int) (gs : List Gp) : ((rDem cs gs).zip cs).map (fun z => mn z.2 z.1) = metOf cs gs := by
  unfold metOf
  generalize rDem cs gs = ds
  induction ds generalizing cs with
  | nil => cases cs <;> rfl
  | cons d ds ih =>
    cases cs with
    | nil => rfl
    | cons c cs => simp [ih cs]
section
variable {P : Program} {w : World} {K : PySem.W.Frag} {mg : Str → Option Value} {base : Heap}
def spLu (K : PySem.W.Frag) : Sp := spUb K
set_option maxHeartbeats 8000000 in
theorem ok_Lu {f fLr fLd : Addr} {fd fdLr fdLd : FuncData} (F : Fun K "_law_unbeaten" "_law_unbeaten" sLu f fd)
    (FLr : Fun K "_law_reserve" "_law_reserve" sLr fLr fdLr) (bLr : Binds K fdLr ["_law_instance_here", "_law_group"] []) (gLr : mg "_law_reserve" = some (.ref fLr)) (GLr : FnOk P w K mg base CX0 2 fLr fdLr ["_law_instance_here", "_law_group"] (spRes K))
    (FLd : Fun K "_law_demand" "_law_demand" sLd fLd fdLd) (bLd : Binds K fdLd ["_law_instance_here"] []) (gLd : mg "_law_demand" = some (.ref fLd)) (GLd : FnOk P w K mg base CX0 1 fLd fdLd ["_law_instance_here"] (spLd K))
    (m_len : mg "len" = none) (m_enumerate : mg "enumerate" = none) (m_range : mg "range" = none) (m_zip : mg "zip" = none) (m_min : mg "min" = none) :
    FnOk P w K mg base CX0 3 f fd ["_law_instance_here", "_law_assignment_here"] (spLu K) := by
  refine F.ok scLu (fun vs H Q E h => ?_) (fun cdv A outer s H vs Q E hr h => ?_)
  · obtain ⟨i, v, cs, gs, rows, rfl, _⟩ := h; rfl
  · obtain ⟨i, v, cs, gs, rows, rfl, hI, ok, hA, hS, q⟩ := h
    have hu64 : (A.deeper (envOfC "_law_unbeaten" (defScope sLu) s.heap.objs.size f cdv)).units + 64 < cLine := by have := hr.un; omega
    refine ⟨_, pss_cons (ps_set (i := 2) scLu.nd rfl (.inl rfl) (pe_op op_rep (pe_lst (pa_cons (pe_int) pa_nil)) (pe_callB call_lenQ (by rfl) m_len PySem.boot_len (pa_cons (pe_ix ix_tup (pv 0) (pe_int) (fun _ _ => rfl)) pa_nil))))
      (pss_cons (ps_for PassesOwn.never rfl (pi_enumT (by rfl) m_enumerate (pa_cons (pv 1) pa_nil)) (pg_tup rfl (pgs_cons (pg_name (i := 3) scLu.nd rfl (.inl rfl)) (pgs_cons (pg_name (i := 4) scLu.nd rfl (.inr rfl)) pgs_nil)))
        (pss_cons (ps_set (i := 5) scLu.nd rfl (.inr rfl) (pe_call GLr (hr.mono (by omega)) (by rfl) gLr FLr.kp bLr .nil pass0 (pa_cons (pv 0) (pa_cons (pv 3) pa_nil))))
        (pss_cons (ps_if (pt_cmpR (op_neD hu64) (pe_lc (own := [("_law_k", 7)]) (g := gName 7) (tt := tAnd (tTest (tOp (rI0 fun i j => .bl (decide (j < i))) (tOp (rIxT K) (tVar 4) (tVar 7)) (tC (.int 0)))) (tTest (tOp (rIn K true) (tVar 7) (tTup (tCons (tC (.int 0)) (tCons (tVar 5) tNil)))))) (te := tVar 7) rfl scLu.nd (pi_range1 (by rfl) m_range (pa_cons (pe_callB call_lenQ (by rfl) m_len PySem.boot_len (pa_cons (pv 4) pa_nil)) pa_nil)) (blkOk_by (N := ["_law_instance_here", "_law_assignment_here", "_law_served", "_law_group", "_law_numbers", "_law_second", "_law_first", "_law_k", "_law_pair"]) (sc := defScope sLu) (by decide +kernel)) (fun _ _ _ _ _ => pg_name (i := 7) scLu.nd rfl (.inl rfl)) (fun _ _ _ _ _ => pts_one (PW.pt (pw_and (pt_cmpR op_gt (pe_ix ix_tup (pv 4) (pv 7) (fun _ _ => rfl)) (pe_int) (nomark _)) (pw_and1 (pt_cmpR op_notIn_seq (pv 7) (pe_tup (pa_cons (pe_int) (pa_cons (pv 5) pa_nil))) (by rfl)))))) (fun _ _ _ _ _ => pv 7)) (pe_lst (pa_nil)) (nomark _))
          (pss_one (ps_ret (pe_bl))) pss_nil)
        (pss_one (ps_if (pt_cmpR op_gt (pe_callB call_lenQ (by rfl) m_len PySem.boot_len (pa_cons (pv 4) pa_nil)) (pe_int) (nomark _))
          (pss_cons (ps_set (i := 6) scLu.nd rfl (.inl rfl) (pe_ix ix_tup (pe_ix ix_tup (pe_ix ix_tup (pe_ix ix_tup (pv 0) (pe_int) (fun _ _ => rfl)) (pv 3) (fun _ _ => rfl)) (pe_int) (fun _ _ => rfl)) (pe_int) (fun _ _ => rfl)))
          (pss_one (ps_asg (pe_op op_add (pe_ix ix_list (pv 2) (pv 6) (fun _ _ => rfl)) (pe_ix ix_tup (pv 4) (pe_int) (fun _ _ => rfl))) (pg_sub (pv 2) (pv 6) set_list)))) pss_nil)))))
      (pss_one (ps_ret (pe_cmpR (op_eqD hu64) (pv 2) (pe_lc (own := [("_law_pair", 8)]) (g := gName 8) (tt := tYes) (te := tCB (rMinT K) (tCons (tVar 8) tNil)) rfl scLu.nd (pi_zipE (by rfl) m_zip (pa_cons (pe_call GLd (hr.mono (by omega)) (by rfl) gLd FLd.kp bLd .nil pass0 (pa_cons (pv 0) pa_nil)) (pa_cons (pe_ix ix_tup (pv 0) (pe_int) (fun _ _ => rfl)) pa_nil))) (blkOk_by (N := ["_law_instance_here", "_law_assignment_here", "_law_served", "_law_group", "_law_numbers", "_law_second", "_law_first", "_law_k", "_law_pair"]) (sc := defScope sLu) (by decide +kernel)) (fun _ _ _ _ _ => pg_name (i := 8) scLu.nd rfl (.inl rfl)) (fun _ _ _ _ _ => pts_nil) (fun _ _ _ _ _ => pe_callB (call_minT rfl) (by rfl) m_min (by decide +kernel) (pa_cons (pv 8) pa_nil))) (nomark _))))), ?_⟩
    obtain ⟨a, rv, rfl, hA, hR⟩ := hA
    have lr : rv.length = rows.length := hR.1
    have lg := hS.1
    have h10 := ok.g10
    obtain ⟨_, ca, ga, xs, e, hi, hc, hg0, hgs⟩ := inst_open hI
    cases e
    have lx := DpAll.len hgs
    rw [List.length_map] at lx
    have h6 := ok.c6
    refine ⟨by decide, fun p0 n0 => ⟨.ref i, rfl, i, _, 0, .ref ca, rfl, rfl, (TupK.new n0).sq hi, atI_nat (j := 0) rfl, ca, _, rfl, .inr ((TupK.new n0).sq hc), p0, _, _, rfl, rfl, upd_same, by omega, ?_, ?_, fun L nL => ?_⟩⟩
    · rw [List.length_map]; omega
    · rw [List.length_map]; show 1 * _ ≤ sizeLine; have := small (n := cs.length) (by omega); simp; omega
    have fL : H L = none := freeOf nL
    have s1 : Same H (upd (upd H p0 (.lst [.int 0])) L (.lst (List.replicate ((List.map V.int cs).length : Int).toNat [V.int 0]).flatten)) := samePut (sameNew n0) fL
    refine ⟨.ref a, rfl, a, _, rfl, sqS s1 hA, for_it (walk_enumT (K := K) (a := a) (xs := rv))
      (fun j σ H2 => ∃ (y3 y4 y5 y6 : Option V), σ = [some (.ref i), some (.ref a), some (.ref L), y3, y4, y5, y6, none, none] ∧ Same H H2 ∧ H2 L = some (.lst ((servedOf cs.length ((gs.zip rows).take j)).map V.int)) ∧ onlyB cs gs ((gs.zip rows).take j) = true)
      ⟨none, none, none, none, rfl, s1, ?_, rfl⟩ (fun j σ H2 _ h => by obtain ⟨_, _, _, _, _, s2, _⟩ := h; exact sqS s2 hA) ?_ ?_⟩
    · rw [upd_same, List.length_map, Int.toNat_natCast, zeros_V]; rfl
    · rintro j v σ H2 H3 hlt ⟨y3, y4, y5, y6, rfl, s2, e2, hB⟩ ⟨T, x, y, rfl, nT, rfl, ex, ey⟩
      cases ex
      have ey : rv[j]? = some y := ey
      have hj : j < gs.length := by omega
      have hgj : gs[j]? = some gs[j] := List.getElem?_eq_getElem hj
      obtain ⟨row, hrow, Tr, rfl, hTr⟩ := hR.at ey
      have hz : (gs.zip rows)[j]? = some (gs[j], row) := List.getElem?_zip_eq_some.mpr ⟨hgj, hrow⟩
      have hlr : row.length = gs[j].1.length + 1 := hS.2 _ (List.mem_of_getElem? hz)
      have hgp := (ok.gp gs[j] (List.getElem_mem hj)).2.1
      have hgl := (ok.gp gs[j] (List.getElem_mem hj)).1
      obtain ⟨gA, pA, hx, hG, hP⟩ := grp_at hgs hgj
      have sT := sameNew (o := .tup [.int (j : Nat), .ref Tr]) nT
      have s3 := s2.trans sT
      refine ⟨T, _, rfl, SqT.of upd_same, rfl, _, _, rfl, _, _, rfl, rfl, ?_⟩
      refine ⟨.ref i, rfl, .int (j : Nat), rfl, i, j, cs, gs, gs[j], rfl, (TupK.of s3).dp _ _ (to_dInst _ _) hI, ok, hgj, fun H4 s4 => ?_⟩
      have s24 := sT.trans s4
      have s04 := s2.trans s24
      have e4 := s24 _ _ e2
      refine ⟨.ref Tr, rfl, Tr, _, rfl, .inr (sqS s04 hTr), _, rfl, by omega, by rw [List.length_map]; omega, fun D nD => lc_it (walk_range (lo := 0) (n := ((List.map V.int row).length : Int).toNat))
        (LcP H4 D (List.range row.length) (onlyG cs gs gs[j] row)) (.start nD) (fun _ _ _ _ => trivial) ?_ ?_⟩
      · rintro k v H5 H6 hk hP5 ⟨rfl, rfl⟩
        have hk : k < ((List.map V.int row).length : Int).toNat := hk
        rw [List.length_map, Int.toNat_natCast] at hk
        have hkr : (List.range row.length)[k]? = some k := by rw [List.getElem?_range hk]
        have e0 : (0 : Int) + ((k : Nat) : Int) = ((k : Nat) : Int) := Int.zero_add _
        dsimp only
        rw [e0]
        have hat : (row.map V.int)[k]? = some (.int (row.getD k 0)) := by rw [atS hk, List.getD_eq_getElem?_getD, List.getElem?_eq_getElem hk]; rfl
        refine ⟨rfl, .ref Tr, rfl, .int (k : Nat), rfl, Tr, _, _, .int (row.getD k 0), rfl, rfl, sqS (s04.trans hP5.1) hTr, atI_nat hat, _, _, rfl, rfl, _, rfl, ?_⟩
        by_cases h1 : 0 < row.getD k 0
        · refine iteTr (decide_eq_true h1) ?_
          refine ⟨.int (k : Nat), rfl, .int (resC cs gs gs[j] : Nat), rfl, (show (2 : Nat) ≤ sizeLine by decide), fun U nU => ?_⟩
          have sU := sameNew (o := .tup [.int 0, .int (resC cs gs gs[j] : Nat)]) nU
          have hU : SqT K (upd H6 U (.tup [.int 0, .int (resC cs gs gs[j] : Nat)])) U ([(0 : Int), (resC cs gs gs[j] : Nat)].map V.int) := SqT.of upd_same
          refine ⟨U, _, rfl, .inr hU, rfl, flat_ints _, _, rfl, ?_⟩
          rw [if_pos rfl, inV_ints]
          have hcn : ([(0 : Int), (resC cs gs gs[j] : Nat)].contains ((k : Nat) : Int)) = decide (k = 0 ∨ k = resC cs gs gs[j]) := by
            by_cases e : k = 0 ∨ k = resC cs gs gs[j]
            · rw [decide_eq_true e]; rcases e with e | e <;> simp [e]
            · rw [decide_eq_false e]
              have h1 : ¬ (k = 0) := fun z => e (.inl z)
              have h2 : ¬ (k = resC cs gs gs[j]) := fun z => e (.inr z)
              simp [h1]; omega
          rw [hcn]
          by_cases e : k = 0 ∨ k = resC cs gs gs[j]
          · rw [decide_eq_true e]
            exact iteF (hP5.no sU hkr (by unfold onlyG; rw [decide_eq_true e]; simp))
          · rw [decide_eq_false e]
            exact iteT ⟨_, rfl, hP5.yes nD sU hkr (by unfold onlyG; rw [decide_eq_true h1, decide_eq_false e]; rfl) (by omega)⟩
        · exact iteFF (decide_eq_false h1) (iteF (hP5.no (Same.refl _) hkr (by unfold onlyG; rw [decide_eq_false h1]; rfl)))
      rintro H5 hP5
      have e5 := hP5.done (by rw [List.length_range, List.length_map]; omega)
      obtain ⟨ks, hks, hnil⟩ := onlyG_nil (cs := cs) (gs := gs) (g := gs[j]) (row := row)
      rw [hks] at e5
      refine ⟨Nat.zero_le _, fun Em nEm => ⟨.list (ks.map PyData.int), .list (([] : List Int).map PyData.int), .lst (SqL.of (upNew nEm e5)) (dp_ints _), .lst (SqL.of upd_same) .nil, shaped_ints _, shaped_ints _, _, rfl, ?_⟩⟩
      rw [eqv_intsL, hnil]
      have s05 := s04.trans (hP5.1.trans (sameNew (o := .lst []) nEm))
      have e5L := (hP5.1.trans (sameNew (o := .lst []) nEm)) _ _ e4
      cases hb : onlyB cs gs [(gs[j], row)] with
      | false =>
        refine iteT ?_
        have := q _ s05
        unfold unbB at this
        rw [only_false (List.mem_of_getElem? hz) hb] at this
        exact this
      | true =>
      refine iteF ?_
      have hB2 : onlyB cs gs ((gs.zip rows).take (j + 1)) = true := by rw [take_succ_some hz, only_snoc, hB, hb]; rfl
      generalize upd H5 Em (.lst []) = H6 at s05 e5L
      have hsn := served_snoc (n := cs.length) hz
      have hdl := served_len ((gs.zip rows).take j) cs.length
      have hr0 : (row.map V.int)[0]? = some (.int (row.getD 0 0)) := by
        rw [List.getElem?_map, List.getD_eq_getElem?_getD, List.getElem?_eq_getElem (by rw [hlr]; omega)]; rfl
      generalize hcur : servedOf cs.length ((gs.zip rows).take j) = cur at e5L hsn hdl
      refine ⟨.ref Tr, rfl, Tr, _, rfl, .inr (sqS s05 hTr), _, _, rfl, rfl, _, rfl, ite2 (fun h1 => ?_) (fun h1 => ?_)⟩
      · obtain ⟨pp, ps, hps⟩ : ∃ pp ps, gs[j].1 = pp :: ps := by
          cases hgg : gs[j].1 with
          | nil => rw [hgg] at hlr; rw [List.length_map, hlr] at h1; exact absurd (of_decide_eq_true h1) (by simp)
          | cons a b => exact ⟨a, b, rfl⟩
        have hpr := hgp pp (by rw [hps]; simp)
        obtain ⟨pn, rfl⟩ : ∃ pn : Nat, pp = pn := ⟨pp.toNat, by omega⟩
        have hpl : pn < cur.length := by omega
        refine ⟨.ref i, rfl, i, _, 1, .ref ga, rfl, rfl, sqS s05 hi, atI_nat (j := 1) rfl, .int (j : Nat), rfl, ga, _, _, .ref gA, rfl, rfl, sqS s05 hg0, atI_nat hx, gA, _, 0, .ref pA, rfl, rfl, sqS s05 hG, atI_nat (j := 0) rfl, pA, _, 0, .int pn, rfl, rfl, sqS s05 hP, atI_nat (j := 0) (by rw [hps]; rfl), ?_⟩
        refine ⟨.ref L, rfl, .int pn, rfl, L, _, _, .int cur[pn], rfl, rfl, SqL.of e5L, atI_nat (atS hpl), .ref Tr, rfl, Tr, _, 0, .int (row.getD 0 0), rfl, rfl, sqS s05 hTr, atI_nat (j := 0) hr0, _, _, rfl, rfl, .ref L, rfl, .int pn, rfl, L, _, _, pn, rfl, rfl, e5L, ixN_nat (by rw [List.length_map]; exact hpl), ?_⟩
        refine ⟨_, _, _, _, rfl, samePut s05 fL, ?_, hB2⟩
        rw [upd_same, hsn]
        unfold dAdd
        simp only
        rw [hps]
        show _ = some (HO.lst ((addAt cur pn (row.getD 0 0)).map V.int))
        unfold addAt
        rw [Int.toNat_natCast, List.getD_eq_getElem?_getD (l := cur), List.getElem?_eq_getElem hpl, List.map_set]
        rfl
      · have hge : gs[j].1 = [] := by
          cases hgg : gs[j].1 with
          | nil => rfl
          | cons a b => rw [hgg] at hlr; rw [List.length_map, hlr] at h1; exact absurd (decide_eq_true (by simp; omega)) h1
        refine ⟨_, _, _, _, rfl, s05, ?_, hB2⟩
        rw [e5L, hsn]
        unfold dAdd
        simp only
        rw [hge]
    rintro σ H2 ⟨y3, y4, y5, y6, rfl, s2, e2, hB⟩
    rw [List.take_of_length_le (by rw [List.length_zip]; omega)] at e2 hB
    refine ⟨.ref L, rfl, .ref i, rfl, i, cs, gs, rfl, (TupK.of s2).dp _ _ (to_dInst _ _) hI, ok, fun H3 Dm s3 eDm nDm => ?_⟩
    have s03 := s2.trans s3
    refine ⟨.ref i, rfl, i, _, 0, .ref ca, rfl, rfl, sqS s03 hi, atI_nat (j := 0) rfl, Dm, ca, _, _, rfl, SqL.of eDm, sqS s03 hc, fun D nD => lc_it (walk_zipE (K := K) (a := Dm) (b := ca) (xs := (rDem cs gs).map V.int) (ys := cs.map V.int) (by rw [List.length_map, List.length_map, rDem_len]))
      (LcP H3 D ((rDem cs gs).zip cs) (fun z => some (.int (mn z.2 z.1)))) (.start nD) (fun j H4 _ h => ⟨SqL.of (h.1 _ _ eDm), sqS (s03.trans h.1) hc⟩) ?_ ?_⟩
    · rintro j v H4 H5 hlt hP ⟨T, x, y, rfl, nT, rfl, hx, hy⟩
      have hx' : ((rDem cs gs).map V.int)[j]? = some x := hx
      have hy' : (cs.map V.int)[j]? = some y := hy
      rw [List.getElem?_map] at hx' hy'
      obtain ⟨d, hdj, rfl⟩ := Option.map_eq_some_iff.mp hx'
      obtain ⟨c, hcj, rfl⟩ := Option.map_eq_some_iff.mp hy'
      have hjl : j < cs.length := (List.getElem?_eq_some_iff.mp hcj).1
      have hT : SqT K (upd H4 T (.tup [.int d, .int c])) T ([d, c].map V.int) := SqT.of upd_same
      refine ⟨rfl, .ref T, rfl, T, [d, c], rfl, hT, by simp, fun m hm1 hm2 => ?_⟩
      have hmn : m = mn c d := by
        have h1 := hm2 d (by simp)
        have h2 := hm2 c (by simp)
        unfold mn
        simp at hm1
        split <;> omega
      subst hmn
      exact hP.yes (x := (d, c)) nD (sameNew nT) (List.getElem?_zip_eq_some.mpr ⟨hdj, hcj⟩) rfl (by omega)
    rintro H4 hP
    have e4 := hP.done (by rw [List.length_zip, List.length_map]; omega)
    rw [fm_map] at e4
    have em : ((rDem cs gs).zip cs).map (fun z => V.int (mn z.2 z.1)) = (metOf cs gs).map V.int := by rw [← met_zip, List.map_map]; rfl
    rw [em] at e4
    refine ⟨.list ((servedOf cs.length (gs.zip rows)).map PyData.int), .list ((metOf cs gs).map PyData.int), .lst (SqL.of ((s3.trans hP.1) _ _ e2)) (dp_ints _), .lst (SqL.of e4) (dp_ints _), shaped_ints _, shaped_ints _, ?_⟩
    rw [eqv_intsL]
    have := q _ (s03.trans hP.1)
    unfold unbB at this
    rw [hB, Bool.true_and] at this
    exact this
end
end Pv

namespace Pv
open PySem PySem.Spec PyProof.Rows L2
abbrev sLq : Stmt := topS 53
theorem scLq : FnScope ["_law_deck", "_law_instance_here", "_law_room_here", "_law_found", "_law_posts", "_law_count", "_law_numbers", "_law_rest", "_law_turn", "_law_option", "_law_many"] ["_law_deck", "_law_instance_here"] (defScope sLq) := ⟨rfl, rfl, rfl, by decide +kernel, rfl, by decide +kernel, by decide +kernel⟩
theorem getD_at {l : List Int} {o : Nat} (h : o < l.length) : l.getD o 0 = l[o] := by rw [List.getD_eq_getElem?_getD, List.getElem?_eq_getElem h]; rfl
theorem sum_addAt {l : List Int} {o : Nat} (h : o < l.length) (m : Int) : (addAt l (o : Int) m).sum = l.sum + m := by
  have := sum_set id l o l[o] (l[o] + m) (List.getElem?_eq_getElem h)
  simp at this
  unfold addAt
  rw [Int.toNat_natCast, getD_at h, this]; omega
theorem zip_set_in {y : Int} : ∀ {ps nm : List Int} {o : Nat} (h : o < ps.length), o < nm.length → ps.zip (nm.set o y) = (ps.zip nm).set o (ps[o], y)
  | p :: ps, a :: nm, 0, _, _ => rfl
  | p :: ps, a :: nm, o + 1, h, h2 => by
    have := @zip_set_in y ps nm o (by simpa using h) (by simpa using h2)
    simp [this]
  | [], _, _, h, _ => by simp at h
  | _ :: _, [], _, _, h => by simp at h
theorem zip_set_out {y : Int} : ∀ {ps nm : List Int} {o : Nat}, ps.length ≤ o → ps.zip (nm.set o y) = ps.zip nm
  | [], nm, o, _ => by simp
  | p :: ps, [], o, _ => by simp
  | p :: ps, a :: nm, 0, h => by simp at h
  | p :: ps, a :: nm, o + 1, h => by
    have := @zip_set_out y ps nm o (by simpa using h)
    simp [this]
theorem load_add {g : Gp} {nm : List Int} {o : Nat} (ho : o < g.1.length) (hn : o < nm.length) (m q : Int) : loadC q (g, addAt nm (o : Int) m) = loadC q (g, nm) + (if g.1[o] = q then m else 0) := by
  unfold loadC addAt
  simp only
  rw [Int.toNat_natCast, getD_at hn, zip_set_in ho hn, sum_set (fun w : Int × Int => if w.1 = q then w.2 else 0) (g.1.zip nm) o (g.1[o], nm[o]) _ (List.getElem?_zip_eq_some.mpr ⟨List.getElem?_eq_getElem ho, List.getElem?_eq_getElem hn⟩)]
  simp only
  split <;> omega
theorem addAt_mem {l : List Int} {o : Nat} {m x : Int} (h : x ∈ addAt l (o : Int) m) : x ∈ l ∨ x = l.getD o 0 + m := by
  unfold addAt at h
  rw [Int.toNat_natCast] at h
  exact List.mem_or_eq_of_mem_set h
structure InR (n : Nat) (g : Gp) (rm0 rm nm : List Int) (rest : Int) : Prop where
  lr : rm.length = n
  ln : nm.length = g.1.length + 1
  nn : ∀ x ∈ nm, 0 ≤ x
  rn : ∀ q, 0 ≤ rm.getD q 0
  re : 0 ≤ rest
  su : nm.sum + rest = g.2
  la : nm.getD g.1.length 0 = 0
  ld : ∀ q : Nat, rm.getD q 0 + loadC q (g, nm) = rm0.getD q 0
theorem InR.step {n : Nat} {g : Gp} {rm0 rm nm : List Int} {rest : Int} (h : InR n g rm0 rm nm rest) {o p : Nat} (ho : o < g.1.length) (hp : g.1[o] = (p : Int)) (hpn : p < n) {m : Int} (m0 : 0 ≤ m) (m1 : m ≤ rest) (m2 : m ≤ rm.getD p 0) :
    InR n g rm0 (addAt rm (p : Int) (-m)) (addAt nm (o : Int) m) (rest - m) := by
  have hol : o < nm.length := by rw [h.ln]; omega
  have hpl : p < rm.length := by rw [h.lr]; exact hpn
  refine ⟨by rw [addAt_len]; exact h.lr, by rw [addAt_len]; exact h.ln, fun x hx => ?_, fun q => ?_, by omega, by rw [sum_addAt hol]; have := h.su; omega, ?_, fun q => ?_⟩
  · rcases addAt_mem hx with h1 | h1
    · exact h.nn x h1
    · have := getD_nn h.nn o; omega
  · rw [addAt_get hpl]
    have := h.rn q
    by_cases e : p = q
    · subst e; rw [if_pos rfl]; omega
    · rw [if_neg e]; omega
  · rw [addAt_get hol, if_neg (by omega), h.la]; rfl
  · rw [addAt_get hpl, load_add ho hol, hp]
    have := h.ld q
    by_cases e : p = q
    · subst e; rw [if_pos rfl, if_pos rfl]; omega
    · rw [if_neg e, if_neg (by omega)]; omega
theorem InR.start {n : Nat} {g : Gp} {rm : List Int} (hl : rm.length = n) (hr : ∀ q, 0 ≤ rm.getD q 0) (hg : 0 ≤ g.2) : InR n g rm rm (zeros (g.1.length + 1)) g.2 := by
  have hz : ∀ x ∈ zeros (g.1.length + 1), x = 0 := fun x hx => (List.mem_replicate.mp hx).2
  refine ⟨hl, by simp [zeros], fun x hx => by rw [hz x hx]; exact Int.le_refl _, hr, hg, ?_, ?_, fun q => ?_⟩
  · have := sum_zero (f := id) (l := zeros (g.1.length + 1)) hz
    simp at this; omega
  · rw [List.getD_eq_getElem?_getD, zeros, List.getElem?_replicate]; split <;> rfl
  · have : loadC q (g, zeros (g.1.length + 1)) = 0 := by
      unfold loadC
      exact sum_zero fun w hw => by
        have := hz w.2 (zip_in hw).2
        split <;> omega
    omega
structure OutR (cs : List Int) (gs : List Gp) (j : Nat) (rm : List Int) (rows : List (List Int)) : Prop where
  lr : rm.length = cs.length
  rn : ∀ q, 0 ≤ rm.getD q 0
  lj : rows.length = j
  ok : ∀ z ∈ (gs.take j).zip rows, z.2.length = z.1.1.length + 1 ∧ (∀ x ∈ z.2, 0 ≤ x) ∧ z.2.sum = z.1.2
  ld : ∀ q : Nat, rm.getD q 0 + (((gs.take j).zip rows).map (loadC q)).sum = cs.getD q 0
theorem OutR.step {cs : List Int} {gs : List Gp} {j : Nat} {rm rm' nm : List Int} {rows : List (List Int)} {g : Gp} {rest : Int} (h : OutR cs gs j rm rows) (hg : gs[j]? = some g) (i : InR cs.length g rm rm' nm rest) : OutR cs gs (j + 1) rm' (rows ++ [nm.set g.1.length rest]) := by
  have hj := (List.getElem?_eq_some_iff.mp hg).1
  have hz : (gs.take (j + 1)).zip (rows ++ [nm.set g.1.length rest]) = (gs.take j).zip rows ++ [(g, nm.set g.1.length rest)] := by
    rw [List.take_add_one, hg]
    exact List.zip_append (by rw [List.length_take, h.lj]; omega)
  have hload : ∀ q : Int, loadC q (g, nm.set g.1.length rest) = loadC q (g, nm) := fun q => by
    unfold loadC
    simp only
    rw [zip_set_out (Nat.le_refl _)]
  refine ⟨i.lr, i.rn, by rw [List.length_append, h.lj]; rfl, fun z hz' => ?_, fun q => ?_⟩
  · rw [hz] at hz'
    rcases List.mem_append.mp hz' with h1 | h1
    · exact h.ok z h1
    · simp at h1
      subst h1
      refine ⟨by rw [List.length_set]; exact i.ln, fun x hx => ?_, ?_⟩
      · rcases List.mem_or_eq_of_mem_set hx with h2 | h2
        · exact i.nn x h2
        · rw [h2]; exact i.re
      · have hl : g.1.length < nm.length := by rw [i.ln]; omega
        have := sum_set id nm g.1.length nm[g.1.length] rest (List.getElem?_eq_getElem hl)
        simp at this
        have h3 := i.la
        rw [getD_at hl] at h3
        have h4 := i.su
        show (nm.set g.1.length rest).sum = g.2
        rw [this]; omega
  · rw [hz, List.map_append, List.sum_append]
    have h1 := h.ld q
    have h2 := i.ld q
    simp only [List.map_cons, List.map_nil, List.sum_cons, List.sum_nil]
    rw [hload]; omega
theorem OutR.asg {cs : List Int} {gs : List Gp} {rm : List Int} {rows : List (List Int)} (h : OutR cs gs gs.length rm rows) : AsgOk cs gs rows := by
  have ht : gs.take gs.length = gs := List.take_length
  have hok := h.ok
  have hld := h.ld
  rw [ht] at hok
  refine ⟨⟨h.lj, fun z hz => (hok z hz).1⟩, fun z hz => (hok z hz).2.1, fun z hz => (hok z hz).2.2, fun q _ => ?_⟩
  have h1 := hld q
  rw [ht] at h1
  have h2 := h.rn q
  omega
theorem asg_le {cs : List Int} {gs : List Gp} {rows : List (List Int)} (ok : InsOk cs gs) (A : AsgOk cs gs rows) : ∀ r ∈ rows, r.length ≤ 7 ∧ ∀ x ∈ r, 0 ≤ x ∧ x ≤ 10 ^ 12 := by
  intro r hr
  obtain ⟨j, hj⟩ := List.getElem?_of_mem hr
  have hjl := (List.getElem?_eq_some_iff.mp hj).1
  have hl := A.shp.1
  have hg : gs[j]? = some (gs[j]'(by omega)) := List.getElem?_eq_getElem (by omega)
  have hz : (gs[j]'(by omega), r) ∈ gs.zip rows := List.mem_of_getElem? (i := j) (List.getElem?_zip_eq_some.mpr ⟨hg, hj⟩)
  have hgp := ok.gp _ (List.mem_of_getElem? hg)
  refine ⟨by have := A.shp.2 _ hz; simp only at this; omega, fun x hx => ⟨A.nn _ hz x hx, ?_⟩⟩
  have h1 := sum_ge (A.nn _ hz) hx
  have h2 := A.sum _ hz
  simp only at h1 h2
  omega
section
variable {P : Program} {w : World} {K : PySem.W.Frag} {mg : Str → Option Value} {base : Heap}
def spLq (K : PySem.W.Frag) : Sp := fun vs H Q _ => ∃ (st gd : Addr) (t : Nat) (i : Addr) (cs : List Int) (gs : List Gp), vs = [.ref st, .ref i] ∧ DV H st gd t ∧ t + 300 ≤ 1000000 ∧ Dp K H (.ref i) (dInst cs gs) ∧ InsOk cs gs ∧
  ∀ (H' : Hp) (T : Addr) (t' : Nat) (rows : List (List Int)), DV H' st gd t' → t' ≤ t + 200 → Ext st gd H H' → AsV K H' (.ref T) rows → AsgOk cs gs rows → Q (.ref T) H'
set_option maxHeartbeats 16000000 in
theorem ok_Lq {f fDr : Addr} {fd fdDr : FuncData} (F : Fun K "_law_some_assignment" "_law_some_assignment" sLq f fd)
    (FDr : Fun K "_law_next" "_law_next" sDr fDr fdDr) (bDr : Binds K fdDr ["_law_deck", "_law_many"] []) (gDr : mg "_law_next" = some (.ref fDr)) (GDr : FnOk P w K mg base CX0 1 fDr fdDr ["_law_deck", "_law_many"] spDraw)
    (m_list : mg "list" = none) (m_len : mg "len" = none) (m_range : mg "range" = none) (m_min : mg "min" = none) (m_tuple : mg "tuple" = none) :
    FnOk P w K mg base CX0 2 f fd ["_law_deck", "_law_instance_here"] (spLq K) := by
  refine F.ok scLq (fun vs H Q E h => ?_) (fun cdv A outer s H vs Q E hr h => ?_)
  · obtain ⟨st, gd, t, i, cs, gs, rfl, _⟩ := h; rfl
  · obtain ⟨st, gd, t, i, cs, gs, rfl, D0, ht, hI, ok, q⟩ := h
    refine ⟨_, pss_cons (ps_par (i := 2) (j := 3) rfl scLq.nd rfl rfl (by decide) rfl rfl (pa_cons (pe_callTy call_list_of (by rfl) m_list (by decide +kernel) (pa_cons (pe_ix ix_tup (pv 1) (pe_int) (fun _ _ => rfl)) pa_nil)) (pa_cons (pe_lst (pa_nil)) pa_nil)) rfl)
      (pss_cons (ps_for PassesOwn.never rfl (pi_tup (pe_ix ix_tup (pv 1) (pe_int) (fun _ _ => rfl))) (pg_tup rfl (pgs_cons (pg_name (i := 4) scLq.nd rfl (.inl rfl)) (pgs_cons (pg_name (i := 5) scLq.nd rfl (.inl rfl)) pgs_nil)))
        (pss_cons (ps_par (i := 6) (j := 7) rfl scLq.nd rfl rfl (by decide) rfl rfl (pa_cons (pe_op op_rep (pe_lst (pa_cons (pe_int) pa_nil)) (pe_op op_add (pe_callB call_lenQ (by rfl) m_len PySem.boot_len (pa_cons (pv 4) pa_nil)) (pe_int))) (pa_cons (pv 5) pa_nil)) rfl)
        (pss_cons (ps_for PassesOwn.never rfl (pi_range1 (by rfl) m_range (pa_cons (pe_callB call_lenQ (by rfl) m_len PySem.boot_len (pa_cons (pv 4) pa_nil)) pa_nil)) (pg_name (i := 8) scLq.nd rfl (.inl rfl))
          (pss_cons (ps_set (i := 9) scLq.nd rfl (.inl rfl) (pe_call GDr (hr.mono (by omega)) (by rfl) gDr FDr.kp bDr .nil pass0 (pa_cons (pv 0) (pa_cons (pe_callB call_lenQ (by rfl) m_len PySem.boot_len (pa_cons (pv 4) pa_nil)) pa_nil))))
          (pss_cons (ps_set (i := 10) scLq.nd rfl (.inl rfl) (pe_callB (call_min3Nu rfl) (by rfl) m_min (by decide +kernel) (pa_cons (pv 7) (pa_cons (pe_ix ix_list (pv 2) (pe_ix ix_tup (pv 4) (pv 9) (fun _ _ => rfl)) (fun _ _ => rfl)) (pa_cons (pe_ix ix_list (pe_lst (pa_cons (pv 7) (pa_cons (pe_call GDr (hr.mono (by omega)) (by rfl) gDr FDr.kp bDr .nil pass0 (pa_cons (pv 0) (pa_cons (pe_op op_add (pv 7) (pe_int)) pa_nil))) pa_nil))) (pe_call GDr (hr.mono (by omega)) (by rfl) gDr FDr.kp bDr .nil pass0 (pa_cons (pv 0) (pa_cons (pe_int) pa_nil))) (fun _ _ => rfl)) pa_nil)))))
          (pss_cons (ps_asg (pe_op op_add (pe_ix ix_list (pv 6) (pv 9) (fun _ _ => rfl)) (pv 10)) (pg_sub (pv 6) (pv 9) set_list))
          (pss_cons (ps_asg (pe_op op_sub (pe_ix ix_list (pv 2) (pe_ix ix_tup (pv 4) (pv 9) (fun _ _ => rfl)) (fun _ _ => rfl)) (pv 10)) (pg_sub (pv 2) (pe_ix ix_tup (pv 4) (pv 9) (fun _ _ => rfl)) set_list))
          (pss_one (ps_set (i := 7) scLq.nd rfl (.inl rfl) (pe_op op_sub (pv 7) (pv 10)))))))))
        (pss_cons (ps_asg (pv 7) (pg_sub (pv 6) (pe_callB call_lenQ (by rfl) m_len PySem.boot_len (pa_cons (pv 4) pa_nil)) set_list))
        (pss_one (ps_expr (pe_bm PySem.F.plainAttrs_list PySem.F.slot_list_append PySem.F.type_list_append mt_append (pv 3) (pa_cons (pe_callTy call_tupQ (by rfl) m_tuple (by decide +kernel) (pa_cons (pv 6) pa_nil)) pa_nil))))))))
      (pss_one (ps_ret (pe_callTy call_tupQ (by rfl) m_tuple (by decide +kernel) (pa_cons (pv 3) pa_nil))))), ?_⟩
    obtain ⟨_, ca, ga, xs, e, hi, hc, hgt, hgs⟩ := inst_open hI
    cases e
    have lx := DpAll.len hgs
    rw [List.length_map] at lx
    have h10 := ok.g10
    have h6 := ok.c6
    refine ⟨.ref i, rfl, i, _, 0, .ref ca, rfl, rfl, hi, atI_nat (j := 0) rfl, ca, _, rfl, .inr hc, fun Rm nRm => ⟨Nat.zero_le _, fun Fo nFo => ⟨_, _, rfl, ?_⟩⟩⟩
    have fFo : H Fo = none := freeOf nFo
    have nRF : Rm ≠ Fo := fun z => by rw [← z, upd_same] at nFo; cases nFo
    obtain ⟨oR1, oR2⟩ := D0.off nRm
    obtain ⟨oF1, oF2⟩ := D0.off fFo
    have X1 : Ext st gd H (upd (upd H Rm (.lst (cs.map V.int))) Fo (.lst [])) := Ext.of ((sameNew nRm).trans (sameNew nFo))
    have hcn : ∀ q, 0 ≤ cs.getD q 0 := fun q => getD_nn (fun c hc' => by have := ok.cb c hc'; omega) q
    refine ⟨.ref i, rfl, i, _, 1, .ref ga, rfl, rfl, (D0.tup X1).sq hi, atI_nat (j := 1) rfl, ga, rfl, ⟨_, (D0.tup X1).sq hgt⟩, for_it (walk_tup (K := K) (a := ga) (xs := xs))
      (fun j σ Hx => ∃ (tx : Nat) (y4 y5 y6 y7 y8 y9 y10 : Option V) (vs : List V) (rm : List Int) (rows : List (List Int)), σ = [some (.ref st), some (.ref i), some (.ref Rm), some (.ref Fo), y4, y5, y6, y7, y8, y9, y10] ∧ DV Hx st gd tx ∧ tx ≤ t + 18 * j ∧ Ext st gd H Hx ∧ Hx Rm = some (.lst (rm.map V.int)) ∧ Hx Fo = some (.lst vs) ∧ Rl (TuV K Hx) vs rows ∧ OutR cs gs j rm rows)
      ⟨t, none, none, none, none, none, none, none, [], cs, [], rfl, (D0.new nRm).new nFo, by omega, X1, upNew nFo upd_same, upd_same, Rl.nil, ⟨rfl, hcn, rfl, fun z hz => by simp at hz, fun q => by simp⟩⟩ (fun j σ Hx _ h => by obtain ⟨_, _, _, _, _, _, _, _, _, _, _, _, _, _, Xx, _⟩ := h; exact (D0.tup Xx).sq hgt) ?_ ?_⟩
    · rintro j v σ Hx Hx' hlt ⟨tx, y4, y5, y6, y7, y8, y9, y10, vs, rm, rows, rfl, Dx, htx, Xx, eR, eF, hR, hO⟩ ⟨rfl, hv⟩
      have hv : xs[j]? = some v := hv
      have hj : j < gs.length := by omega
      have hg : gs[j]? = some gs[j] := List.getElem?_eq_getElem hj
      obtain ⟨gA, pA, hx, hG, hP⟩ := grp_at hgs hg
      rw [hx] at hv
      cases hv
      have hgp := ok.gp gs[j] (List.getElem_mem hj)
      have tkx := D0.tup Xx
      refine ⟨gA, _, rfl, tkx.sq hG, rfl, _, _, rfl, _, _, rfl, rfl, ?_⟩
      refine ⟨by decide, fun p0 n0 => ⟨.ref pA, rfl, pA, _, rfl, .inr ((tkx.trans (.of (sameNew n0))).sq hP), _, _, rfl, rfl, p0, _, _, rfl, rfl, upd_same, by omega, ?_, ?_, fun Nm nNm => ⟨.int gs[j].2, rfl, _, _, rfl, ?_⟩⟩⟩
      · rw [List.length_map]; omega
      · rw [List.length_map]; show 1 * _ ≤ sizeLine; have := small (n := gs[j].1.length + 1) (by omega); simp; omega
      have fNm : Hx' Nm = none := freeOf nNm
      have sN : Same Hx' (upd (upd Hx' p0 (.lst [.int 0])) Nm (.lst (List.replicate (((List.map V.int gs[j].1).length : Int) + 1).toNat [V.int 0]).flatten)) := samePut (sameNew n0) fNm
      have eN : (upd (upd Hx' p0 (.lst [.int 0])) Nm (.lst (List.replicate (((List.map V.int gs[j].1).length : Int) + 1).toNat [V.int 0]).flatten)) Nm = some (.lst ((zeros (gs[j].1.length + 1)).map V.int)) := by rw [upd_same, List.length_map, zeros_at]
      dsimp only at sN eN ⊢
      generalize upd (upd Hx' p0 (.lst [.int 0])) Nm (.lst (List.replicate (((List.map V.int gs[j].1).length : Int) + 1).toNat [V.int 0]).flatten) = H1 at sN eN ⊢
      have nNR : Nm ≠ Rm := fun z => by rw [z, eR] at fNm; cases fNm
      have nNF : Nm ≠ Fo := fun z => by rw [z, eF] at fNm; cases fNm
      obtain ⟨oN1, oN2⟩ := Dx.off fNm
      have X1' := Xx.trans (Ext.of (st := st) (r := gd) sN)
      refine ⟨.ref pA, rfl, pA, _, rfl, .inr ((D0.tup X1').sq hP), _, rfl, by omega, by rw [List.length_map]; omega, for_it (walk_range (lo := 0) (n := ((List.map V.int gs[j].1).length : Int).toNat))
        (fun k σ Hy => ∃ (ty : Nat) (y8 y9 y10 : Option V) (rm' nm : List Int) (rest : Int), σ = [some (.ref st), some (.ref i), some (.ref Rm), some (.ref Fo), some (.ref pA), some (.int gs[j].2), some (.ref Nm), some (.int rest), y8, y9, y10] ∧ DV Hy st gd ty ∧ ty ≤ tx + 3 * k ∧ Ext st gd H Hy ∧ TupK Hx' Hy ∧ Hy Rm = some (.lst (rm'.map V.int)) ∧ Hy Fo = some (.lst vs) ∧ Hy Nm = some (.lst (nm.map V.int)) ∧ InR cs.length gs[j] rm rm' nm rest)
        ⟨tx, _, _, _, rm, zeros (gs[j].1.length + 1), gs[j].2, rfl, Dx.same sN, by omega, X1', .of sN, sN _ _ eR, sN _ _ eF, eN, InR.start hO.lr hO.rn (by omega)⟩ (fun _ _ _ _ _ => trivial) ?_ ?_⟩
      · rintro k w σ Hy Hy' hk ⟨ty, y8', y9', y10', rm', nm, rest, rfl, Dy, hty, Xy, tky, eR1, eF1, eN1, hI1⟩ ⟨rfl, rfl⟩
        have hk : k < ((List.map V.int gs[j].1).length : Int).toNat := hk
        rw [List.length_map, Int.toNat_natCast] at hk
        dsimp only
        have tk0 := D0.tup Xy
        -- the option
        refine ⟨.ref st, rfl, .ref pA, rfl, pA, _, rfl, .inr (tk0.sq hP), st, gd, ty, _, rfl, Dy, by omega, by rw [List.length_map]; omega, by rw [List.length_map]; omega, fun H2 o ho0 ho1 D2 X2 => ?_⟩
        rw [List.length_map] at ho1
        obtain ⟨on, rfl⟩ : ∃ on : Nat, o = on := ⟨o.toNat, by omega⟩
        have hol : on < gs[j].1.length := by omega
        have hpp := hgp.2.1 gs[j].1[on] (List.getElem_mem hol)
        obtain ⟨pn, hpn⟩ : ∃ pn : Nat, gs[j].1[on] = pn := ⟨gs[j].1[on].toNat, by omega⟩
        have hpl : pn < rm'.length := by rw [hI1.lr]; omega
        have hnl : on < nm.length := by rw [hI1.ln]; omega
        have Xy2 := Xy.trans X2
        have eR2 := X2 _ _ eR1 oR1 oR2
        have eF2 := X2 _ _ eF1 oF1 oF2
        have eN2 := X2 _ _ eN1 oN1 oN2
        have hpa : (gs[j].1.map V.int)[on]? = some (.int pn) := by rw [atS hol, hpn]
        -- how many
        refine ⟨.int rest, rfl, .ref Rm, rfl, .ref pA, rfl, .int (on : Nat), rfl, pA, _, _, .int pn, rfl, rfl, (D0.tup Xy2).sq hP, atI_nat hpa, Rm, _, _, .int rm'[pn], rfl, rfl, SqL.of eR2, atI_nat (atS hpl), .int rest, rfl, .ref st, rfl, .int rest, rfl, _, _, rfl, rfl, st, gd, _, _, rfl, D2, by omega, by have := hI1.re; omega, by have := hI1.su; have := hI1.nn; have h7 := sum_nn hI1.nn; omega, fun H3 d hd0 hd1 D3 X3 => ⟨(show (2 : Nat) ≤ sizeLine by decide), fun Z nZ => ⟨.ref st, rfl, st, gd, _, 2, rfl, D3.new nZ, by omega, by decide, by decide, fun H4 k4 h40 h41 D4 X4 => ?_⟩⟩⟩
        obtain ⟨oZ1, oZ2⟩ := D3.off nZ
        obtain ⟨c, hc4, hcb⟩ : ∃ c : Int, atI [V.int rest, V.int d] k4 = some (.int c) ∧ (0 ≤ c ∧ c ≤ rest) := by
          have hre := hI1.re
          obtain h | h : k4 = 0 ∨ k4 = 1 := by omega
          · exact ⟨rest, by rw [h]; rfl, by omega⟩
          · exact ⟨d, by rw [h]; rfl, by omega⟩
        refine ⟨Z, _, _, .int c, rfl, rfl, SqL.of (X4 _ _ upd_same oZ1 oZ2), hc4, _, _, _, _, rfl, nuMin3_int _ _ _, ?_⟩
        have X34 : Ext st gd H2 H4 := X3.trans ((Ext.of (sameNew nZ)).trans X4)
        generalize hm : (if c < (if rm'[pn] < rest then rm'[pn] else rest) then c else (if rm'[pn] < rest then rm'[pn] else rest)) = m
        have hrp : rm'.getD pn 0 = rm'[pn] := getD_at hpl
        have hr0 := hI1.rn pn
        have hre := hI1.re
        have hm0 : 0 ≤ m ∧ m ≤ rest ∧ m ≤ rm'.getD pn 0 := by
          rw [hrp] at hr0 ⊢
          rw [← hm]
          split <;> split <;> omega
        have Xy4 := Xy2.trans X34
        have eR4 := X34 _ _ eR2 oR1 oR2
        have eF4 := X34 _ _ eF2 oF1 oF2
        have eN4 := X34 _ _ eN2 oN1 oN2
        have tk4 := D0.tup Xy4
        have tkx4 : TupK Hx' H4 := tky.trans (Dy.tup (X2.trans X34))
        -- numbers
        refine ⟨.ref Nm, rfl, .int (on : Nat), rfl, Nm, _, _, .int nm[on], rfl, rfl, SqL.of eN4, atI_nat (atS hnl), .int m, rfl, _, _, rfl, rfl, .ref Nm, rfl, .int (on : Nat), rfl, Nm, _, _, on, rfl, rfl, eN4, ixN_nat (by rw [List.length_map]; exact hnl), ?_⟩
        rw [add_V hnl]
        have tkA : TupK H4 (upd H4 Nm (.lst ((addAt nm (on : Nat) m).map V.int))) := TupK.put eN4
        have eR5 : (upd H4 Nm (.lst ((addAt nm (on : Nat) m).map V.int))) Rm = some (.lst (rm'.map V.int)) := by rw [upd_ne nNR.symm]; exact eR4
        have eF5 : (upd H4 Nm (.lst ((addAt nm (on : Nat) m).map V.int))) Fo = some (.lst vs) := by rw [upd_ne nNF.symm]; exact eF4
        have eN5 : (upd H4 Nm (.lst ((addAt nm (on : Nat) m).map V.int))) Nm = some (.lst ((addAt nm (on : Nat) m).map V.int)) := upd_same
        have D5 := D4.put (o := .lst ((addAt nm (on : Nat) m).map V.int)) oN1 oN2
        have fNm0 : H Nm = none := by
          cases e : H Nm with
          | none => rfl
          | some o => have := Xx _ _ e oN1 oN2; rw [fNm] at this; cases this
        have X5 : Ext st gd H (upd H4 Nm (.lst ((addAt nm (on : Nat) m).map V.int))) := ExtPut Xy4 fNm0
        generalize upd H4 Nm (.lst ((addAt nm (on : Nat) m).map V.int)) = H5 at tkA eR5 eF5 eN5 D5 X5 ⊢
        have tkP := (tk4.trans tkA).sq hP
        -- room
        refine ⟨.ref Rm, rfl, .ref pA, rfl, .int (on : Nat), rfl, pA, _, _, .int pn, rfl, rfl, tkP, atI_nat hpa, Rm, _, _, .int rm'[pn], rfl, rfl, SqL.of eR5, atI_nat (atS hpl), .int m, rfl, _, _, rfl, rfl, .ref Rm, rfl, .ref pA, rfl, .int (on : Nat), rfl, pA, _, _, .int pn, rfl, rfl, tkP, atI_nat hpa, Rm, _, _, pn, rfl, rfl, eR5, ixN_nat (by rw [List.length_map]; exact hpl), ?_⟩
        have eadd : (rm'.map V.int).set pn (.int (rm'[pn] - m)) = (addAt rm' (pn : Nat) (-m)).map V.int := by rw [← add_V hpl, Int.sub_eq_add_neg]
        dsimp only
        rw [eadd]
        refine ⟨.int rest, rfl, .int m, rfl, _, _, rfl, rfl, _, _, _, _, addAt rm' (pn : Nat) (-m), addAt nm (on : Nat) m, rest - m, rfl, D5.put oR1 oR2, by omega, ExtPut X5 nRm, tkx4.trans (tkA.trans (TupK.put eR5)), upd_same, by rw [upd_ne nRF.symm]; exact eF5, by rw [upd_ne nNR]; exact eN5, hI1.step hol hpn (by have := hI1.lr; omega) hm0.1 hm0.2.1 hm0.2.2⟩
      rintro σ Hy ⟨ty, y8', y9', y10', rm', nm, rest, rfl, Dy, hty, Xy, tky, eR1, eF1, eN1, hI1⟩
      rw [List.length_map, Int.toNat_natCast] at hty
      have hll : gs[j].1.length < nm.length := by rw [hI1.ln]; omega
      have tk0 := D0.tup Xy
      -- those without a post
      refine ⟨.int rest, rfl, .ref Nm, rfl, .ref pA, rfl, pA, _, rfl, .inr (tk0.sq hP), Nm, _, _, gs[j].1.length, rfl, rfl, eN1, (show ixN (nm.map V.int).length (((gs[j].1.map V.int).length : Nat) : Int) = some gs[j].1.length by rw [List.length_map, List.length_map]; exact ixN_nat hll), ?_⟩
      rw [← List.map_set]
      have fNm0 : H Nm = none := by
        cases e : H Nm with
        | none => rfl
        | some o => have := Xx _ _ e oN1 oN2; rw [fNm] at this; cases this
      have tkA : TupK Hy (upd Hy Nm (.lst ((nm.set gs[j].1.length rest).map V.int))) := TupK.put eN1
      have eR5 : (upd Hy Nm (.lst ((nm.set gs[j].1.length rest).map V.int))) Rm = some (.lst (rm'.map V.int)) := by rw [upd_ne nNR.symm]; exact eR1
      have eF5 : (upd Hy Nm (.lst ((nm.set gs[j].1.length rest).map V.int))) Fo = some (.lst vs) := by rw [upd_ne nNF.symm]; exact eF1
      have eN5 : (upd Hy Nm (.lst ((nm.set gs[j].1.length rest).map V.int))) Nm = some (.lst ((nm.set gs[j].1.length rest).map V.int)) := upd_same
      have D5 := Dy.put (o := .lst ((nm.set gs[j].1.length rest).map V.int)) oN1 oN2
      have X5 : Ext st gd H (upd Hy Nm (.lst ((nm.set gs[j].1.length rest).map V.int))) := ExtPut Xy fNm0
      generalize upd Hy Nm (.lst ((nm.set gs[j].1.length rest).map V.int)) = H5 at tkA eR5 eF5 eN5 D5 X5 ⊢
      refine ⟨.ref Fo, rfl, .inl ⟨rfl, _, SqL.of eF5⟩, .ref Nm, rfl, Nm, _, rfl, .inl ⟨SqL.of eN5, fun Tt nTt => ?_⟩⟩
      have sTt := sameNew (o := .tup ((nm.set gs[j].1.length rest).map V.int)) nTt
      have eF6 := sTt _ _ eF5
      have eR6 := sTt _ _ eR5
      have hTt : SqT K (upd H5 Tt (.tup ((nm.set gs[j].1.length rest).map V.int))) Tt ((nm.set gs[j].1.length rest).map V.int) := SqT.of upd_same
      have D6 := D5.same sTt
      have X6 := X5.trans (Ext.of (st := st) (r := gd) sTt)
      have tk6 : TupK Hx' _ := tky.trans (tkA.trans (.of sTt))
      generalize upd H5 Tt (.tup ((nm.set gs[j].1.length rest).map V.int)) = H6 at sTt eF6 eR6 hTt D6 X6 tk6 ⊢
      have tkp : TupK H6 (upd H6 Fo (.lst (vs ++ [.ref Tt]))) := TupK.put eF6
      have lvs : vs.length = j := by rw [hR.1, hO.lj]
      refine ⟨Fo, vs, _, rfl, rfl, eF6, small (by omega), _, _, _, _, _, _, _, _, vs ++ [.ref Tt], rm', rows ++ [nm.set gs[j].1.length rest], rfl, D6.put oF1 oF2, by omega, ExtPut X6 fFo, by rw [upd_ne nRF]; exact eR6, upd_same, ?_, hO.step hg hI1⟩
      exact Rl.snoc (hR.mono fun v r h => (h.tk tk6).tk tkp) ⟨Tt, rfl, tkp.sq hTt⟩
    rintro σ Hx ⟨tx, y4, y5, y6, y7, y8, y9, y10, vs, rm, rows, rfl, Dx, htx, Xx, eR, eF, hR, hO⟩
    rw [lx] at hO htx
    exact ⟨.ref Fo, rfl, Fo, _, rfl, .inl ⟨SqL.of eF, fun p np => q _ p tx rows (Dx.new np) (by omega) (Xx.trans (Ext.of (sameNew np))) ⟨p, vs, rfl, SqT.of upd_same, hR.mono fun v r h => h.tk (TupK.of (sameNew np))⟩ hO.asg⟩⟩
end
end Pv

namespace Pv
open PySem PySem.Spec PyProof.Rows L2
abbrev sLk : Stmt := topS 55
theorem scLk : FnScope ["_law_instance_here", "_law_assignment_here", "_law_found", "error"] ["_law_instance_here", "_law_assignment_here"] (defScope sLk) := ⟨rfl, rfl, rfl, by decide +kernel, rfl, by decide +kernel, by decide +kernel⟩
abbrev sLh : Stmt := topS 56
theorem scLh : FnScope ["_law_instance_here", "_law_vector", "_law_found", "error"] ["_law_instance_here", "_law_vector"] (defScope sLh) := ⟨rfl, rfl, rfl, by decide +kernel, rfl, by decide +kernel, by decide +kernel⟩
abbrev sLx : Stmt := topS 57
theorem scLx : FnScope ["_law_instance_here", "_law_top", "_law_found"] ["_law_instance_here", "_law_top"] (defScope sLx) := ⟨rfl, rfl, rfl, by decide +kernel, rfl, by decide +kernel, by decide +kernel⟩
theorem op_mulS0 {X : Cx} : OpR X (binaryOp .Mult) (fun x y H Q => ∃ i, x = .str i ∧ y = .int 0 ∧ Q (.str Str.empty) H) := by
  intro pins s σ H x y v u Q I rx ry h
  obtain ⟨i, rfl, rfl, q⟩ := h
  obtain ⟨t, rfl⟩ := rx
  obtain ⟨t', rfl⟩ := ry
  exact PySem.P.mul_str_none (by decide) (by decide) ⟨.str Str.empty, H, I.tok _, ⟨_, rfl⟩, q⟩
section
variable {P : Program} {w : World} {K : PySem.W.Frag} {mg : Str → Option Value} {base : Heap}
def spLk (K : PySem.W.Frag) : Sp := fun vs H Q _ => ∃ (i : Addr) (v : V) (cs : List Int) (gs : List Gp) (rows : List (List Int)), vs = [.ref i, v] ∧ Dp K H (.ref i) (dInst cs gs) ∧ InsOk cs gs ∧ AsV K H v rows ∧ Shp gs rows ∧
  (unbB cs gs rows = true → ∀ H' T, Same H H' → SqT K H' T ((vecOf cs gs rows).map V.int) → Q (.ref T) H') ∧ (unbB cs gs rows = false → ∀ H', Same H H' → Q (.str "Beaten") H')
def tsLk (K : PySem.W.Frag) (cE cO1 cO2 cO3 : Addr) (a : Addr) (cls : Value) (d : Option Addr) : TS :=
  tIfS (tAnd (tB (tCB (rIsX K a cls d) (tCons (tVar 3) (tCons (tC (.ref cE)) tNil)))) (tB (tCB (rIsX K a cls d) (tCons (tVar 3) (tCons (tC (.ty "ValueError")) tNil)))))
    (tAsg (tOp (fun x y H Q => ∃ i j, x = .str i ∧ y = .str j ∧ i.length + j.length ≤ sizeLine ∧ Q (.str (i ++ j)) H) (tC (.str "Beaten")) (tOp (fun x y H Q => ∃ i, x = .str i ∧ y = .int 0 ∧ Q (.str Str.empty) H) (tC (.str " and more")) (tCB (fun xs H Q => (∃ i, xs = [.int i] ∧ Q (.int i) H) ∨ ∃ k, xs = [.bl k] ∧ Q (.int (if k then 1 else 0)) H)
      (tCons (tCB (rIsX K a cls d) (tCons (tVar 3) (tCons (tTup (tCons (tC (.ref cO1)) (tCons (tC (.ref cO2)) (tCons (tC (.ref cO3)) tNil)))) tNil))) tNil)))) (gName 2)) tNext
set_option maxHeartbeats 8000000 in
theorem ok_Lk {f fVo cE cVE cO1 cO2 cO3 : Addr} {fd fdVo : FuncData} (F : Fun K "_law_back" "_law_back" sLk f fd)
    (VoF : Fun K "vector_of" "vector_of" sVo fVo fdVo) (bVo : Binds K fdVo ["instance", "assignment"] []) (gVo : mg "vector_of" = some (.ref fVo)) (GVo : FnOk P w K mg base (L2.CX P w) 8 fVo fdVo ["instance", "assignment"] (spVo K cE))
    (gE : mg "Beaten" = some (.ref cE)) (gVE : mg "VoteError" = some (.ref cVE)) (gO1 : mg "BadVector" = some (.ref cO1)) (gO2 : mg "NoChange" = some (.ref cO2)) (gO3 : mg "NoUnbeaten" = some (.ref cO3)) (IE : IsC K cE)
    (x1 : PySem.W.exmOne K (.ref cE) (.ref cVE) = some true) (x2 : PySem.W.kitOne K (.ref cE) (.ref cE) = some true) (x3 : PySem.W.kitOne K (.ref cE) (.type "ValueError") = some true) (x4 : PySem.W.kitAny K (.ref cE) [.ref cO1, .ref cO2, .ref cO3] = some false)
    (m_isinstance : mg "isinstance" = none) (m_int : mg "int" = none) (m_ValueError : mg "ValueError" = none) :
    FnOk P w K mg base CX0 9 f fd ["_law_instance_here", "_law_assignment_here"] (spLk K) := by
  refine F.ok scLk (fun vs H Q E h => ?_) (fun cdv A outer s H vs Q E hr h => ?_)
  · obtain ⟨i, v, cs, gs, rows, rfl, _⟩ := h; rfl
  · obtain ⟨i, v, cs, gs, rows, rfl, hI, ok, hA, hS, q1, q2⟩ := h
    refine ⟨_, pss_cons (ps_set (i := 2) scLk.nd rfl (.inl rfl) pe_str)
      (pss_cons (ps_try_as (i := 3) (tb := fun W => tAsg (tCallS (spVo K cE) (WE W) (tCons (tVar 0) (tCons (tVar 1) tNil))) (gName 2)) (ts := tsLk K cE cO1 cO2 cO3) (Wout := fun _ _ _ _ => False) rfl rfl scLk.nd rfl rfl ⟨rfl, by decide, Or.inl gVE⟩ takes0
        (fun W pn xe tk _ => pss_one (ps_set (i := 2) scLk.nd rfl (.inl rfl) (by exact (pe_callS GVo (hr.mono (by omega)) rfl gVo VoF.kp bVo (fun σ => passAt tk σ) (by exact (pa_cons (pv 0) (pa_cons (pv 1) pa_nil)))))))
        (fun a oe cls d pn hz hf => by
          refine pss_one (ps_if (PW.pt (pw_and (pt_val (pe_callB (call_isX hz hf) (by rfl) m_isinstance (by decide +kernel) (pa_cons (pv 3) (pa_cons (pe_glob (v := .ref cE) (by rfl) gE rfl) pa_nil))))
            (pw_and1 (pt_val (pe_callB (call_isX hz hf) (by rfl) m_isinstance (by decide +kernel) (pa_cons (pv 3) (pa_cons (pe_bltn (v := .ty "ValueError") (by rfl) m_ValueError (by decide +kernel) rfl) pa_nil)))))))
            (pss_one (ps_set (i := 2) scLk.nd rfl (.inl rfl) (pe_op op_add_str pe_str (pe_op op_mulS0 pe_str (pe_callTy call_int1 (by rfl) m_int (by decide +kernel) (pa_cons (pe_callB (call_isX hz hf) (by rfl) m_isinstance (by decide +kernel) (pa_cons (pv 3) (pa_cons (pe_tup (pa_cons (pe_glob (v := .ref cO1) (by rfl) gO1 rfl) (pa_cons (pe_glob (v := .ref cO2) (by rfl) gO2 rfl) (pa_cons (pe_glob (v := .ref cO3) (by rfl) gO3 rfl) pa_nil)))) pa_nil))) pa_nil)))))) pss_nil)))
      (pss_one (ps_ret (pv 2)))), ?_⟩
    refine ⟨.ref i, rfl, v, rfl, i, v, cs, gs, rows, rfl, hI, ok, hA, hS, fun hb H1 T s1 hT => ⟨_, rfl, q1 hb H1 T s1 hT⟩, fun hb H1 s1 => ?_⟩
    refine ⟨true, x1, fun _ e ne => ?_, fun z => nomatch z⟩
    refine ⟨.ref e, rfl, cE, .ref cE, true, rfl, IE, (fun _ z => nomatch z), rfl, .inl ⟨_, .own _, x2⟩, _, rfl, iteT ?_⟩
    refine ⟨.ref e, rfl, cE, .ty "ValueError", true, rfl, IE, (fun _ z => nomatch z), rfl, .inl ⟨_, .ty _, x3⟩, _, rfl, iteT ?_⟩
    refine ⟨.ref e, rfl, (show (3 : Nat) ≤ sizeLine by decide), fun T nT => ?_⟩
    refine ⟨cE, .ref T, false, rfl, IE, (fun _ z => nomatch z), rfl, .inr ⟨T, _, _, rfl, upd_same, .cons (.own _) (.cons (.own _) (.cons (.own _) .nil)), x4⟩, .inr ⟨false, rfl, _, rfl, rfl, _, _, rfl, rfl, by decide, ?_⟩⟩
    exact ⟨_, rfl, q2 hb _ (s1.trans (sameNew nT))⟩
def spLh (K : PySem.W.Frag) : Sp := fun vs H Q _ => ∃ (st r i : Addr) (v : V) (cs : List Int) (gs : List Gp) (d : PyData), vs = [.ref i, v] ∧ Dp K H (.ref i) (dInst cs gs) ∧ InsOk cs gs ∧ Dq K st r H v d ∧
  (∀ xs, d = dI xs → IsVec cs gs xs → ∀ H' T, Same H H' → AsV K H' (.ref T) (asOf cs gs xs) → Q (.ref T) H') ∧ (isVecD cs gs d = false → ∀ H', Same H H' → Q (.str "BadVector") H')
def tsLh (K : PySem.W.Frag) (cE cO1 cO2 cO3 : Addr) (a : Addr) (cls : Value) (d : Option Addr) : TS :=
  tIfS (tAnd (tB (tCB (rIsX K a cls d) (tCons (tVar 3) (tCons (tC (.ref cE)) tNil)))) (tB (tCB (rIsX K a cls d) (tCons (tVar 3) (tCons (tC (.ty "ValueError")) tNil)))))
    (tAsg (tOp (fun x y H Q => ∃ i j, x = .str i ∧ y = .str j ∧ i.length + j.length ≤ sizeLine ∧ Q (.str (i ++ j)) H) (tC (.str "BadVector")) (tOp (fun x y H Q => ∃ i, x = .str i ∧ y = .int 0 ∧ Q (.str Str.empty) H) (tC (.str " and more")) (tCB (fun xs H Q => (∃ i, xs = [.int i] ∧ Q (.int i) H) ∨ ∃ k, xs = [.bl k] ∧ Q (.int (if k then 1 else 0)) H)
      (tCons (tCB (rIsX K a cls d) (tCons (tVar 3) (tCons (tTup (tCons (tC (.ref cO1)) (tCons (tC (.ref cO2)) (tCons (tC (.ref cO3)) tNil)))) tNil))) tNil)))) (gName 2)) tNext
set_option maxHeartbeats 8000000 in
theorem ok_Lh {f fAo cE cVE cO1 cO2 cO3 : Addr} {fd fdAo : FuncData} (F : Fun K "_law_there" "_law_there" sLh f fd)
    (AoF : Fun K "assignment_of" "assignment_of" sAo fAo fdAo) (bAo : Binds K fdAo ["instance", "vector"] []) (gAo : mg "assignment_of" = some (.ref fAo)) (GAo : FnOk P w K mg base (L2.CX P w) 8 fAo fdAo ["instance", "vector"] (spAo K cE))
    (gE : mg "BadVector" = some (.ref cE)) (gVE : mg "VoteError" = some (.ref cVE)) (gO1 : mg "Beaten" = some (.ref cO1)) (gO2 : mg "NoChange" = some (.ref cO2)) (gO3 : mg "NoUnbeaten" = some (.ref cO3)) (IE : IsC K cE)
    (x1 : PySem.W.exmOne K (.ref cE) (.ref cVE) = some true) (x2 : PySem.W.kitOne K (.ref cE) (.ref cE) = some true) (x3 : PySem.W.kitOne K (.ref cE) (.type "ValueError") = some true) (x4 : PySem.W.kitAny K (.ref cE) [.ref cO1, .ref cO2, .ref cO3] = some false)
    (m_isinstance : mg "isinstance" = none) (m_int : mg "int" = none) (m_ValueError : mg "ValueError" = none) :
    FnOk P w K mg base CX0 9 f fd ["_law_instance_here", "_law_vector"] (spLh K) := by
  refine F.ok scLh (fun vs H Q E h => ?_) (fun cdv A outer s H vs Q E hr h => ?_)
  · obtain ⟨st, r, i, v, cs, gs, d, rfl, _⟩ := h; rfl
  · obtain ⟨st, r, i, v, cs, gs, d, rfl, hI, ok, hv, q1, q2⟩ := h
    refine ⟨_, pss_cons (ps_set (i := 2) scLh.nd rfl (.inl rfl) pe_str)
      (pss_cons (ps_try_as (i := 3) (tb := fun W => tAsg (tCallS (spAo K cE) (WE W) (tCons (tVar 0) (tCons (tVar 1) tNil))) (gName 2)) (ts := tsLh K cE cO1 cO2 cO3) (Wout := fun _ _ _ _ => False) rfl rfl scLh.nd rfl rfl ⟨rfl, by decide, Or.inl gVE⟩ takes0
        (fun W pn xe tk _ => pss_one (ps_set (i := 2) scLh.nd rfl (.inl rfl) (by exact (pe_callS GAo (hr.mono (by omega)) rfl gAo AoF.kp bAo (fun σ => passAt tk σ) (by exact (pa_cons (pv 0) (pa_cons (pv 1) pa_nil)))))))
        (fun a oe cls d pn hz hf => by
          refine pss_one (ps_if (PW.pt (pw_and (pt_val (pe_callB (call_isX hz hf) (by rfl) m_isinstance (by decide +kernel) (pa_cons (pv 3) (pa_cons (pe_glob (v := .ref cE) (by rfl) gE rfl) pa_nil))))
            (pw_and1 (pt_val (pe_callB (call_isX hz hf) (by rfl) m_isinstance (by decide +kernel) (pa_cons (pv 3) (pa_cons (pe_bltn (v := .ty "ValueError") (by rfl) m_ValueError (by decide +kernel) rfl) pa_nil)))))))
            (pss_one (ps_set (i := 2) scLh.nd rfl (.inl rfl) (pe_op op_add_str pe_str (pe_op op_mulS0 pe_str (pe_callTy call_int1 (by rfl) m_int (by decide +kernel) (pa_cons (pe_callB (call_isX hz hf) (by rfl) m_isinstance (by decide +kernel) (pa_cons (pv 3) (pa_cons (pe_tup (pa_cons (pe_glob (v := .ref cO1) (by rfl) gO1 rfl) (pa_cons (pe_glob (v := .ref cO2) (by rfl) gO2 rfl) (pa_cons (pe_glob (v := .ref cO3) (by rfl) gO3 rfl) pa_nil)))) pa_nil))) pa_nil)))))) pss_nil)))
      (pss_one (ps_ret (pv 2)))), ?_⟩
    refine ⟨.ref i, rfl, v, rfl, st, r, i, v, cs, gs, d, rfl, hI, ok, hv, fun xs hd hx H1 T s1 hT => ⟨_, rfl, q1 xs hd hx H1 T s1 hT⟩, fun hb H1 s1 => ?_⟩
    refine ⟨true, x1, fun _ e ne => ?_, fun z => nomatch z⟩
    refine ⟨.ref e, rfl, cE, .ref cE, true, rfl, IE, (fun _ z => nomatch z), rfl, .inl ⟨_, .own _, x2⟩, _, rfl, iteT ?_⟩
    refine ⟨.ref e, rfl, cE, .ty "ValueError", true, rfl, IE, (fun _ z => nomatch z), rfl, .inl ⟨_, .ty _, x3⟩, _, rfl, iteT ?_⟩
    refine ⟨.ref e, rfl, (show (3 : Nat) ≤ sizeLine by decide), fun T nT => ?_⟩
    refine ⟨cE, .ref T, false, rfl, IE, (fun _ z => nomatch z), rfl, .inr ⟨T, _, _, rfl, upd_same, .cons (.own _) (.cons (.own _) (.cons (.own _) .nil)), x4⟩, .inr ⟨false, rfl, _, rfl, rfl, _, _, rfl, rfl, by decide, ?_⟩⟩
    exact ⟨_, rfl, q2 hb _ (s1.trans (sameNew nT))⟩
def spLx (K : PySem.W.Frag) : Sp := fun vs H Q _ => ∃ (i : Addr) (cs : List Int) (gs : List Gp) (top : Int), vs = [.ref i, .int top] ∧ Dp K H (.ref i) (dInst cs gs) ∧ InsOk cs gs ∧ (top < 4 → gs.length ≤ 4 ∧ ∀ g ∈ gs, g.2 ≤ 5) ∧
  ∀ H' p vs L, Same H H' → H' p = some (.lst vs) → Rl (TuV K H') vs L → (∀ ys ∈ L, IsVec cs gs ys) → L.length ≤ 2000 → H p = none → Q (.ref p) H'
set_option maxHeartbeats 8000000 in
theorem ok_Lx {f fLa fFv fLsv cNU : Addr} {fd fdLa fdFv fdLsv : FuncData} (F : Fun K "_law_vectors" "_law_vectors" sLx f fd)
    (FLa : Fun K "_law_all_vectors" "_law_all_vectors" sLa fLa fdLa) (bLa : Binds K fdLa ["_law_instance_here"] []) (gLa : mg "_law_all_vectors" = some (.ref fLa)) (GLa : FnOk P w K mg base CX0 5 fLa fdLa ["_law_instance_here"] (spLa K))
    (FFv : Fun K "first_vector" "first_vector" sFv fFv fdFv) (bFv : Binds K fdFv ["instance"] []) (gFv : mg "first_vector" = some (.ref fFv)) (GFv : FnOk P w K mg base (L2.CX P w) 7 fFv fdFv ["instance"] (spEx K cNU 0))
    (FLsv : Fun K "last_vector" "last_vector" sLsv fLsv fdLsv) (bLsv : Binds K fdLsv ["instance"] []) (gLsv : mg "last_vector" = some (.ref fLsv)) (GLsv : FnOk P w K mg base (L2.CX P w) 7 fLsv fdLsv ["instance"] (spEx K cNU 1))
    (gNU : mg "NoUnbeaten" = some (.ref cNU)) (x1 : PySem.W.exmOne K (.ref cNU) (.ref cNU) = some true) :
    FnOk P w K mg base CX0 9 f fd ["_law_instance_here", "_law_top"] (spLx K) := by
  refine F.ok scLx (fun vs H Q E h => ?_) (fun cdv A outer s H vs Q E hr h => ?_)
  · obtain ⟨i, cs, gs, top, rfl, _⟩ := h; rfl
  · obtain ⟨i, cs, gs, top, rfl, hI, ok, ht, q⟩ := h
    refine ⟨_, pss_cons (ps_if (pt_cmpR op_lt (pv 1) (pe_int) (nomark _)) (pss_one (ps_ret (pe_call GLa (hr.mono (by omega)) (by rfl) gLa FLa.kp bLa .nil pass0 (pa_cons (pv 0) pa_nil)))) pss_nil)
      (pss_cons (ps_set (i := 2) scLx.nd rfl (.inl rfl) (pe_lst (pa_nil)))
      (pss_cons (ps_try_only (tb := fun W => tAsg (tLst (tCons (tCallS (spEx K cNU 0) (WE W) (tCons (tVar 0) tNil)) (tCons (tCallS (spEx K cNU 1) (WE W) (tCons (tVar 0) tNil)) tNil))) (gName 2)) (ts := fun _ _ _ => tAsg (tLst tNil) (gName 2)) (Wout := fun _ _ _ _ => False) rfl rfl ⟨rfl, by decide, Or.inl gNU⟩ takes0
        (fun W pn xe tk _ => pss_one (ps_set (i := 2) scLx.nd rfl (.inl rfl) (pe_lst (pa_cons (by exact (pe_callS GFv (hr.mono (by omega)) rfl gFv FFv.kp bFv (fun σ => passAt tk σ) (by exact (pa_cons (pv 0) pa_nil)))) (pa_cons (by exact (pe_callS GLsv (hr.mono (by omega)) rfl gLsv FLsv.kp bLsv (fun σ => passAt tk σ) (by exact (pa_cons (pv 0) pa_nil)))) pa_nil)))))
        (fun a oe cls d pn hz hf => pss_one (ps_set (i := 2) scLx.nd rfl (.inl rfl) (pe_lst (pa_nil)))))
      (pss_one (ps_ret (pv 2))))), ?_⟩
    refine ⟨.int top, rfl, _, _, rfl, rfl, _, rfl, ite2 (fun h1 => ?_) (fun h1 => ?_)⟩
    · have h1 : top < 4 := of_decide_eq_true h1
      obtain ⟨h4, h5⟩ := ht h1
      refine ⟨.ref i, rfl, i, cs, gs, rfl, hI, ok, h4, h5, fun H1 p vs s1 e1 hR l1 np => q _ p vs _ s1 e1 hR (fun ys hy => vec_mem.mp hy) (by rw [← hR.1]; omega) np⟩
    · refine ⟨Nat.zero_le _, fun F0 nF0 => ?_⟩
      have s0 := sameNew (o := .lst []) nF0
      have hI0 := (TupK.of s0).dp _ _ (to_dInst _ _) hI
      have free : ∀ {Hn : Hp} {D : Addr}, Same H Hn → Hn D = none → H D = none := fun {Hn D} sn nD => by
        cases e : H D with
        | none => rfl
        | some o => have := sn _ _ e; rw [nD] at this; cases this
      refine ⟨.ref i, rfl, i, cs, gs, rfl, hI0, ok, fun Fe H1 T1 ys1 s1 hT1 hE1 => ?_, fun ss hss hF H1 d ca ra s1 nd h1 h2 => ?_⟩
      · refine ⟨.ref i, rfl, i, cs, gs, rfl, (TupK.of s1).dp _ _ (to_dInst _ _) hI0, ok, fun _ H2 T2 ys2 s2 hT2 hE2 => ?_, fun ss hss hF => absurd (Fe.set (mem ss)) (by omega)⟩
        refine ⟨(show (2 : Nat) ≤ sizeLine by decide), fun D nD => ⟨_, rfl, q _ D [.ref T1, .ref T2] [ys1, ys2] (s0.trans (s1.trans (s2.trans (sameNew nD)))) upd_same ?_ (fun ys hy => ?_) (by simp) (free (s0.trans (s1.trans s2)) nD)⟩⟩
        · exact Rl.snoc (Rl.snoc Rl.nil ⟨T1, rfl, sqS (s2.trans (sameNew nD)) hT1⟩) ⟨T2, rfl, sqS (sameNew nD) hT2⟩
        · simp only [List.mem_cons, List.not_mem_nil, or_false] at hy
          rcases hy with rfl | rfl
          · exact (good_vec ok hE1.len).mp hE1.good
          · exact (good_vec ok hE2.len).mp hE2.good
      · refine ⟨true, x1, fun _ e ne => ?_, fun z => nomatch z⟩
        refine ⟨Nat.zero_le _, fun D nD => ⟨_, rfl, q _ D [] [] (s0.trans (s1.trans ((sameNew nd).trans (sameNew nD)))) upd_same Rl.nil (fun ys hy => by simp at hy) (by simp) (free (s0.trans (s1.trans (sameNew nd))) nD)⟩⟩
end
end Pv

namespace Pv
open PySem PySem.Spec PyProof.Rows L2
abbrev sLaw : Stmt := topS 58
theorem scLaw : FnScope ["_law_script", "_law_deck", "_law_turn", "_law_top", "_law_instance_here", "_law_vectors_here", "_law_vector", "_law_due", "_law_odd_here", "_law_value", "_law_k", "_law_assignment_here", "_law_kept", "_law_found", "_law_group"] ["_law_script"] (defScope sLaw) := ⟨rfl, rfl, rfl, by decide +kernel, rfl, by decide +kernel, by decide +kernel⟩
theorem plainAll_of {ds : List PyData} (h : ∀ d ∈ ds, plain d = true) : plainAll ds = true := by
  induction ds with
  | nil => rfl
  | cons d ds ih => simp [plainAll, h d (by simp), ih (fun e he => h e (by simp [he]))]
theorem depthAll_of {k : Nat} {ds : List PyData} (h : ∀ d ∈ ds, d.depth ≤ k) : PyData.depthAll ds ≤ k := by
  induction ds with
  | nil => simp [PyData.depthAll]
  | cons d ds ih =>
    have h1 := h d (by simp)
    have h2 := ih (fun e he => h e (by simp [he]))
    simp only [PyData.depthAll]; omega
theorem plain_ns {ns : List Int} (h : ns.length ≤ 1000) : plain (dI ns) = true := by
  simp only [dI, plain, List.length_map, Bool.and_eq_true, decide_eq_true_eq]
  exact ⟨h, plainAll_of (by intro d hd; obtain ⟨n, _, rfl⟩ := List.mem_map.mp hd; rfl)⟩
theorem depth_ns (ns : List Int) : (dI ns).depth ≤ 1 := by
  have : PyData.depthAll (ns.map PyData.int) ≤ 0 := depthAll_of (by intro d hd; obtain ⟨n, _, rfl⟩ := List.mem_map.mp hd; simp [PyData.depth])
  simp only [dI, PyData.depth]; omega
theorem dI_inj {xs ys : List Int} (h : dI xs = dI ys) : xs = ys := by
  have h2 : xs.map PyData.int = ys.map PyData.int := by injection h
  clear h
  induction xs generalizing ys with
  | nil => cases ys with | nil => rfl | cons _ _ => simp at h2
  | cons x xs ih => cases ys with
    | nil => simp at h2
    | cons y ys =>
      simp only [List.map_cons, List.cons.injEq] at h2
      obtain ⟨e, e2⟩ := h2
      injection e with e
      rw [e, ih e2]
theorem eqv_dI_str (xs : List Int) (x : Str) : PyData.eqv (dI xs) (.str x) = false := by simp [dI, PyData.eqv]
theorem shaped_Be : SeqAt.shaped (.str "Beaten") = true := by decide +kernel
theorem eqv_str_self (x : Str) : PyData.eqv (.str x) (.str x) = true := by simp [PyData.eqv]
theorem shaped_dI (ns : List Int) : SeqAt.shaped (dI ns) = true := by
  have hd := depth_ns ns
  have hc : PyData.canLayAll0 (ns.map PyData.int) = true := lay_ints ns
  show (PyData.canLay0 (.tuple (ns.map PyData.int)) && decide (PyData.depth (dI ns) ≤ 64)) = true
  rw [Bool.and_eq_true, decide_eq_true_iff]
  exact ⟨by simp only [PyData.canLay0]; exact hc, by omega⟩
theorem dq_ints {K : PySem.W.Frag} {st r : Addr} {H : Hp} : ∀ (ns : List Int), DqAll K st r H (ns.map V.int) (ns.map PyData.int)
  | [] => .nil
  | n :: ns => .cons (.int n) (dq_ints ns)
theorem to_dAs (rows : List (List Int)) : tupOnly (dAs rows) = true := by
  have : ∀ rows : List (List Int), tupOnlyAll (rows.map dI) = true := by
    intro rows
    induction rows with
    | nil => rfl
    | cons r rows ih =>
      show (tupOnly (dI r) && tupOnlyAll (rows.map dI)) = true
      rw [show tupOnly (dI r) = true from to_ints r, ih]; rfl
  simpa [dAs, tupOnly] using this rows
section
variable {P : Program} {w : World} {K : PySem.W.Frag} {mg : Str → Option Value} {base : Heap}
def spLaw (K : PySem.W.Frag) : Sp := fun vs H Q _ => ∃ (a : Addr) (ns : List Int), vs = [.ref a] ∧ SqL K H a (ns.map V.int) ∧ ns.length ≤ 63 ∧ ∀ H', Q (.bl true) H'
set_option maxHeartbeats 16000000 in
theorem ok_Law {f fSt fDr fIn fLx fLt fLh fSm fLk fOd fLv fLq fLu : Addr} {fd fdSt fdDr fdIn fdLx fdLt fdLh fdSm fdLk fdOd fdLv fdLq fdLu : FuncData} (F : Fun K "law" "law" sLaw f fd)
    (FSt : Fun K "_law_begin" "_law_begin" sSt fSt fdSt) (bSt : Binds K fdSt ["_law_script"] []) (gSt : mg "_law_begin" = some (.ref fSt)) (GSt : FnOk P w K mg base CX0 1 fSt fdSt ["_law_script"] (spStart K))
    (FDr : Fun K "_law_next" "_law_next" sDr fDr fdDr) (bDr : Binds K fdDr ["_law_deck", "_law_many"] []) (gDr : mg "_law_next" = some (.ref fDr)) (GDr : FnOk P w K mg base CX0 1 fDr fdDr ["_law_deck", "_law_many"] spDraw)
    (FIn : Fun K "_law_instance" "_law_instance" sIn fIn fdIn) (bIn : Binds K fdIn ["_law_deck", "_law_most_posts", "_law_most_groups", "_law_top"] []) (gIn : mg "_law_instance" = some (.ref fIn)) (GIn : FnOk P w K mg base CX0 3 fIn fdIn ["_law_deck", "_law_most_posts", "_law_most_groups", "_law_top"] (spInst K))
    (FLx : Fun K "_law_vectors" "_law_vectors" sLx fLx fdLx) (bLx : Binds K fdLx ["_law_instance_here", "_law_top"] []) (gLx : mg "_law_vectors" = some (.ref fLx)) (GLx : FnOk P w K mg base CX0 9 fLx fdLx ["_law_instance_here", "_law_top"] (spLx K))
    (FLt : Fun K "_law_assignment" "_law_assignment" sLt fLt fdLt) (bLt : Binds K fdLt ["_law_instance_here", "_law_vector"] []) (gLt : mg "_law_assignment" = some (.ref fLt)) (GLt : FnOk P w K mg base CX0 3 fLt fdLt ["_law_instance_here", "_law_vector"] (spLt K))
    (FLh : Fun K "_law_there" "_law_there" sLh fLh fdLh) (bLh : Binds K fdLh ["_law_instance_here", "_law_vector"] []) (gLh : mg "_law_there" = some (.ref fLh)) (GLh : FnOk P w K mg base CX0 9 fLh fdLh ["_law_instance_here", "_law_vector"] (spLh K))
    (FSm : Fun K "_law_same" "_law_same" sSame fSm fdSm) (bSm : Binds K fdSm ["_law_found", "_law_due"] []) (gSm : mg "_law_same" = some (.ref fSm)) (GSm : FnOk P w K mg base CX0 3 fSm fdSm ["_law_found", "_law_due"] (spS K 3))
    (FLk : Fun K "_law_back" "_law_back" sLk fLk fdLk) (bLk : Binds K fdLk ["_law_instance_here", "_law_assignment_here"] []) (gLk : mg "_law_back" = some (.ref fLk)) (GLk : FnOk P w K mg base CX0 9 fLk fdLk ["_law_instance_here", "_law_assignment_here"] (spLk K))
    (FOd : Fun K "_law_odd" "_law_odd" sOd fOd fdOd) (bOd : Binds K fdOd ["_law_deck"] []) (gOd : mg "_law_odd" = some (.ref fOd)) (GOd : FnOk P w K mg base CX0 2 fOd fdOd ["_law_deck"] (spOd K))
    (FLv : Fun K "_law_is_vector" "_law_is_vector" sLv fLv fdLv) (bLv : Binds K fdLv ["_law_instance_here", "_law_value"] []) (gLv : mg "_law_is_vector" = some (.ref fLv)) (GLv : FnOk P w K mg base CX0 4 fLv fdLv ["_law_instance_here", "_law_value"] (spIv K))
    (FLq : Fun K "_law_some_assignment" "_law_some_assignment" sLq fLq fdLq) (bLq : Binds K fdLq ["_law_deck", "_law_instance_here"] []) (gLq : mg "_law_some_assignment" = some (.ref fLq)) (GLq : FnOk P w K mg base CX0 2 fLq fdLq ["_law_deck", "_law_instance_here"] (spLq K))
    (FLu : Fun K "_law_unbeaten" "_law_unbeaten" sLu fLu fdLu) (bLu : Binds K fdLu ["_law_instance_here", "_law_assignment_here"] []) (gLu : mg "_law_unbeaten" = some (.ref fLu)) (GLu : FnOk P w K mg base CX0 3 fLu fdLu ["_law_instance_here", "_law_assignment_here"] (spLu K))
    (m_range : mg "range" = none) (m_tuple : mg "tuple" = none) (m_list : mg "list" = none) (m_repr : mg "repr" = none) :
    FnG P w K mg base 11 f fd ["_law_script"] (spLaw K) := by
  refine okG F scLaw (fun vs H Q E h => ?_) (fun cdv A outer s H vs Q E hgd hr h => ?_)
  · obtain ⟨a, ns, rfl, _⟩ := h; rfl
  · obtain ⟨a, ns, rfl, hS, hn, q⟩ := h
    have hu64 : (A.deeper (envOfC "law" (defScope sLaw) s.heap.objs.size f cdv)).units + 64 < cLine := by have := hr.un; omega
    refine ⟨_, pss_cons (ps_set (i := 1) scLaw.nd rfl (.inl rfl) (pe_call GSt (hr.mono (by omega)) (by rfl) gSt FSt.kp bSt .nil pass0 (pa_cons (pv 0) pa_nil)))
      (pss_cons (ps_for PassesOwn.never rfl (pi_range1 (by rfl) m_range (pa_cons (pe_int) pa_nil)) (pg_name (i := 2) scLaw.nd rfl (.inl rfl))
        (pss_cons (ps_set (i := 3) scLaw.nd rfl (.inl rfl) (pe_ix ix_list (pe_lst (pa_cons (pe_int) (pa_cons (pe_int) (pa_cons (pe_op op_pow (pe_int) (pe_int)) pa_nil)))) (pe_call GDr (hr.mono (by omega)) (by rfl) gDr FDr.kp bDr .nil pass0 (pa_cons (pv 1) (pa_cons (pe_int) pa_nil))) (fun _ _ => rfl)))
        (pss_cons (ps_set (i := 4) scLaw.nd rfl (.inl rfl) (pe_call GIn (hr.mono (by omega)) (by rfl) gIn FIn.kp bIn .nil pass0 (pa_cons (pv 1) (pa_cons (pe_ix ix_list (pe_lst (pa_cons (pe_int) (pa_cons (pe_int) pa_nil))) (pe_call GDr (hr.mono (by omega)) (by rfl) gDr FDr.kp bDr .nil pass0 (pa_cons (pv 1) (pa_cons (pe_int) pa_nil))) (fun _ _ => rfl)) (pa_cons (pe_ix ix_list (pe_lst (pa_cons (pe_int) (pa_cons (pe_int) pa_nil))) (pe_call GDr (hr.mono (by omega)) (by rfl) gDr FDr.kp bDr .nil pass0 (pa_cons (pv 1) (pa_cons (pe_int) pa_nil))) (fun _ _ => rfl)) (pa_cons (pv 3) pa_nil))))))
        (pss_cons (ps_set (i := 5) scLaw.nd rfl (.inl rfl) (pe_call GLx (hr.mono (by omega)) (by rfl) gLx FLx.kp bLx .nil pass0 (pa_cons (pv 4) (pa_cons (pv 3) pa_nil))))
        (pss_cons (ps_for PassesOwn.never rfl (pi_list (pv 5)) (pg_name (i := 6) scLaw.nd rfl (.inl rfl))
          (pss_cons (ps_set (i := 7) scLaw.nd rfl (.inl rfl) (pe_call GLt (hr.mono (by omega)) (by rfl) gLt FLt.kp bLt .nil pass0 (pa_cons (pv 4) (pa_cons (pv 6) pa_nil))))
          (pss_one (ps_if (PW.pt (pw_or (pt_not (pt_val (pe_call GSm (hr.mono (by omega)) (by rfl) gSm FSm.kp bSm .nil pass0 (pa_cons (pe_call GLh (hr.mono (by omega)) (by rfl) gLh FLh.kp bLh .nil pass0 (pa_cons (pv 4) (pa_cons (pv 6) pa_nil))) (pa_cons (pv 7) pa_nil))))) (pw_or1 (pt_not (pt_val (pe_call GSm (hr.mono (by omega)) (by rfl) gSm FSm.kp bSm .nil pass0 (pa_cons (pe_call GLk (hr.mono (by omega)) (by rfl) gLk FLk.kp bLk .nil pass0 (pa_cons (pv 4) (pa_cons (pv 7) pa_nil))) (pa_cons (pv 6) pa_nil))))))))
            (pss_one (ps_ret (pe_bl))) pss_nil))))
        (pss_cons (ps_set (i := 8) scLaw.nd rfl (.inl rfl) (pe_lst (pa_cons (pe_call GOd (hr.mono (by omega)) (by rfl) gOd FOd.kp bOd .nil pass0 (pa_cons (pv 1) pa_nil)) (pa_cons (pe_callTy call_tupQ (by rfl) m_tuple (by decide +kernel) (pa_cons (pe_lc (own := [("_law_group", 14)]) (g := gName 14) (tt := tYes) (te := tOp (rI0 fun i j => .int (i + j)) (tOp (rIxT K) (tVar 14) (tC (.int 1))) (tC (.int 1))) rfl scLaw.nd (pi_tup (pe_ix ix_tup (pv 4) (pe_int) (fun _ _ => rfl))) (blkOk_by (N := ["_law_script", "_law_deck", "_law_turn", "_law_top", "_law_instance_here", "_law_vectors_here", "_law_vector", "_law_due", "_law_odd_here", "_law_value", "_law_k", "_law_assignment_here", "_law_kept", "_law_found", "_law_group"]) (sc := defScope sLaw) (by decide +kernel)) (fun _ _ _ _ _ => pg_name (i := 14) scLaw.nd rfl (.inl rfl)) (fun _ _ _ _ _ => pts_nil) (fun _ _ _ _ _ => pe_op op_add (pe_ix ix_tup (pv 14) (pe_int) (fun _ _ => rfl)) (pe_int))) pa_nil)) (pa_cons (pe_callTy call_listS (by rfl) m_list (by decide +kernel) (pa_cons (pe_ix ix_list (pe_op op_cat (pv 5) (pe_lst (pa_cons (pe_tup (pa_nil)) pa_nil))) (pe_int) (fun _ _ => rfl)) pa_nil)) pa_nil)))))
        (pss_cons (ps_for PassesOwn.never rfl (pi_list (pv 8)) (pg_name (i := 9) scLaw.nd rfl (.inl rfl))
          (pss_cons (ps_set (i := 7) scLaw.nd rfl (.inl rfl) (pe_str))
          (pss_cons (ps_if (pt_val (pe_call GLv (hr.mono (by omega)) (by rfl) gLv FLv.kp bLv .nil pass0 (pa_cons (pv 4) (pa_cons (pv 9) pa_nil))))
            (pss_one (ps_set (i := 7) scLaw.nd rfl (.inl rfl) (pe_call GLt (hr.mono (by omega)) (by rfl) gLt FLt.kp bLt .nil pass0 (pa_cons (pv 4) (pa_cons (pv 9) pa_nil))))) pss_nil)
          (pss_one (ps_if (pt_not (pt_val (pe_call GSm (hr.mono (by omega)) (by rfl) gSm FSm.kp bSm .nil pass0 (pa_cons (pe_call GLh (hr.mono (by omega)) (by rfl) gLh FLh.kp bLh .nil pass0 (pa_cons (pv 4) (pa_cons (pv 9) pa_nil))) (pa_cons (pv 7) pa_nil)))))
            (pss_one (ps_ret (pe_bl))) pss_nil)))))
        (pss_one (ps_for PassesOwn.never rfl (pi_range1 (by rfl) m_range (pa_cons (pe_int) pa_nil)) (pg_name (i := 10) scLaw.nd rfl (.inl rfl))
          (pss_cons (ps_set (i := 11) scLaw.nd rfl (.inl rfl) (pe_call GLq (hr.mono (by omega)) (by rfl) gLq FLq.kp bLq .nil pass0 (pa_cons (pv 1) (pa_cons (pv 4) pa_nil))))
          (pss_cons (ps_par (i := 12) (j := 13) rfl scLaw.nd rfl rfl (by decide) rfl rfl (pa_cons (pe_callB (call_reprA hgd (hu70 hr)) (by rfl) m_repr (by decide +kernel) (pa_cons (pe_lstS (pa_cons (pv 4) (pa_cons (pv 11) pa_nil))) pa_nil)) (pa_cons (pe_call GLk (hr.mono (by omega)) (by rfl) gLk FLk.kp bLk .nil pass0 (pa_cons (pv 4) (pa_cons (pv 11) pa_nil))) pa_nil)) rfl)
          (pss_cons (ps_if (PW.pt (pw_or (pt_cmpR op_eq (pe_cmpR (op_eqD hu64) (pv 13) (pe_str) (nomark _)) (pe_call GLu (hr.mono (by omega)) (by rfl) gLu FLu.kp bLu .nil pass0 (pa_cons (pv 4) (pa_cons (pv 11) pa_nil))) (nomark _)) (pw_or1 (pt_cmpR op_ne (pe_callB (call_reprA hgd (hu70 hr)) (by rfl) m_repr (by decide +kernel) (pa_cons (pe_lstS (pa_cons (pv 4) (pa_cons (pv 11) pa_nil))) pa_nil)) (pv 12) (nomark _)))))
            (pss_one (ps_ret (pe_bl))) pss_nil)
          (pss_one (ps_if (PW.pt (pw_and (pt_cmpR (op_neD hu64) (pv 13) (pe_str) (nomark _)) (pw_and1 (pt_not (pt_val (pe_call GSm (hr.mono (by omega)) (by rfl) gSm FSm.kp bSm .nil pass0 (pa_cons (pe_call GLh (hr.mono (by omega)) (by rfl) gLh FLh.kp bLh .nil pass0 (pa_cons (pv 4) (pa_cons (pv 13) pa_nil))) (pa_cons (pv 11) pa_nil))))))))
            (pss_one (ps_ret (pe_bl))) pss_nil))))))))))))))
      (pss_one (ps_ret (pe_bl)))), ?_⟩
    refine ⟨.ref a, rfl, a, ns, rfl, hS, hn, fun H1 st g s1 D1 => ?_⟩
    refine ⟨6, rfl, by omega, by omega, for_it (walk_range (lo := 0) (n := (6 : Int).toNat))
      (fun j σ H2 => ∃ (t : Nat) (y2 y3 y4 y5 y6 y7 y8 y9 y10 y11 y12 y13 : Option V), σ = [some (.ref a), some (.ref st), y2, y3, y4, y5, y6, y7, y8, y9, y10, y11, y12, y13, none] ∧ DV H2 st g t ∧ t ≤ 2000 * j)
      ⟨0, none, none, none, none, none, none, none, none, none, none, none, none, rfl, D1, by omega⟩ (fun _ _ _ _ _ => trivial) ?_ ?_⟩
    case _ =>
      rintro j v σ H2 H2' hlt ⟨t, y2, y3, y4, y5, y6, y7, y8, y9, y10, y11, y12, y13, rfl, D2, ht⟩ ⟨rfl, rfl⟩
      have hj : j < 6 := hlt
      dsimp only
      -- top
      refine ⟨_, _, rfl, rfl, ⟨by decide, by decide, by decide⟩, (show (3 : Nat) ≤ sizeLine by decide), fun Z nZ => ⟨.ref st, rfl, st, g, t, 3, rfl, D2.new nZ, by omega, by decide, by decide, fun H3 k3 h30 h31 D3 X3 => ?_⟩⟩
      obtain ⟨oZ1, oZ2⟩ := D2.off nZ
      obtain ⟨top, htop, tb⟩ : ∃ top : Int, atI [V.int 2, V.int 3, V.int (10 ^ (11 : Int).toNat)] k3 = some (.int top) ∧ (1 ≤ top ∧ top ≤ 10 ^ 11) := by
        obtain h | h | h : k3 = 0 ∨ k3 = 1 ∨ k3 = 2 := by omega
        · exact ⟨2, by rw [h]; rfl, by decide⟩
        · exact ⟨3, by rw [h]; rfl, by decide⟩
        · exact ⟨10 ^ (11 : Int).toNat, by rw [h]; rfl, by decide⟩
      refine ⟨Z, _, _, .int top, rfl, rfl, SqL.of (X3 _ _ upd_same oZ1 oZ2), htop, ?_⟩
      -- instance
      refine ⟨.ref st, rfl, (show (2 : Nat) ≤ sizeLine by decide), fun Z1 nZ1 => ⟨.ref st, rfl, st, g, _, 2, rfl, D3.new nZ1, by omega, by decide, by decide, fun H4 k4 h40 h41 D4 X4 => ?_⟩⟩
      obtain ⟨oZ3, oZ4⟩ := D3.off nZ1
      obtain ⟨pm, hpm, pb⟩ : ∃ pm : Int, atI [V.int 3, V.int 6] k4 = some (.int pm) ∧ (1 ≤ pm ∧ pm ≤ 6) := by
        obtain h | h : k4 = 0 ∨ k4 = 1 := by omega
        · exact ⟨3, by rw [h]; rfl, by decide⟩
        · exact ⟨6, by rw [h]; rfl, by decide⟩
      refine ⟨Z1, _, _, .int pm, rfl, rfl, SqL.of (X4 _ _ upd_same oZ3 oZ4), hpm, (show (2 : Nat) ≤ sizeLine by decide), fun Z2 nZ2 => ⟨.ref st, rfl, st, g, _, 2, rfl, D4.new nZ2, by omega, by decide, by decide, fun H5 k5 h50 h51 D5 X5 => ?_⟩⟩
      obtain ⟨oZ5, oZ6⟩ := D4.off nZ2
      obtain ⟨gm, hgm, gb⟩ : ∃ gm : Int, atI [V.int 3, V.int 4] k5 = some (.int gm) ∧ (1 ≤ gm ∧ gm ≤ 4) := by
        obtain h | h : k5 = 0 ∨ k5 = 1 := by omega
        · exact ⟨3, by rw [h]; rfl, by decide⟩
        · exact ⟨4, by rw [h]; rfl, by decide⟩
      refine ⟨Z2, _, _, .int gm, rfl, rfl, SqL.of (X5 _ _ upd_same oZ5 oZ6), hgm, .int top, rfl, st, g, _, pm, gm, top, rfl, D5, by omega, by omega, by omega, by omega, by omega, by omega, by omega, fun H6 i t6 cs gs D6 ht6 X6 hI ok nd lcs bcs lgs bgs => ?_⟩
      have h10 := ok.g10
      have h6c := ok.c6
      -- the vectors
      refine ⟨.ref i, rfl, .int top, rfl, i, cs, gs, top, rfl, hI, ok, (fun h => ⟨by omega, fun g' hg' => by have := bgs g' hg'; omega⟩), fun H7 Lv vs L s7 e7 hR7 hvec lL nLv => ?_⟩
      have lvs : vs.length = L.length := hR7.1
      obtain ⟨oLv1, oLv2⟩ := D6.off nLv
      have D7 := D6.same s7
      have hI7 := (TupK.of s7).dp _ _ (to_dInst _ _) hI
      have plA : ∀ {ys : List Int}, ys.length = gs.length → plain (dAs (asOf cs gs ys)) = true ∧ (dAs (asOf cs gs ys)).depth ≤ 2 := fun {ys} hl => by
        have hrow : ∀ d ∈ (asOf cs gs ys).map dI, plain d = true ∧ d.depth ≤ 1 := fun d hd => by
          obtain ⟨r, hr, rfl⟩ := List.mem_map.mp hd
          unfold asOf at hr
          obtain ⟨z, hz, rfl⟩ := List.mem_map.mp hr
          have := (ok.gp z.1 (zip_in hz).1).1
          exact ⟨plain_ns (by rw [rowV_len]; omega), depth_ns _⟩
        have hlen : ((asOf cs gs ys).map dI).length ≤ 1000 := by unfold asOf; rw [List.length_map, List.length_map, List.length_zip]; omega
        constructor
        · simp only [dAs, plain, Bool.and_eq_true, decide_eq_true_eq]
          exact ⟨hlen, plainAll_of fun d hd => (hrow d hd).1⟩
        · have := depthAll_of (k := 1) fun d hd => (hrow d hd).2
          simp only [dAs, PyData.depth]; omega
      -- each of them
      refine ⟨.ref Lv, rfl, Lv, rfl, ⟨_, SqL.of e7⟩, for_it (walk_list (K := K) (a := Lv) (xs := vs))
        (fun k σ Hx => ∃ (y6 y7 : Option V), σ = [some (.ref a), some (.ref st), some (.int (0 + (j : Nat))), some (.int top), some (.ref i), some (.ref Lv), y6, y7, y8, y9, y10, y11, y12, y13, none] ∧ Same H7 Hx)
        ⟨_, _, rfl, Same.refl _⟩ (fun k σ Hx _ h => by obtain ⟨_, _, _, s9⟩ := h; exact SqL.of (s9 _ _ e7)) ?_ ?_⟩
      · rintro k v σ Hx Hx' hk ⟨y6', y7', rfl, sx⟩ ⟨rfl, hv⟩
        have hv : vs[k]? = some v := hv
        obtain ⟨ys, hys, A, rfl, hA⟩ := hR7.at hv
        have hvv := hvec ys (List.mem_of_getElem? hys)
        have au := as_unb ok hvv
        have hIx : ∀ {Hn : Hp}, Same H7 Hn → Dp K Hn (.ref i) (dInst cs gs) := fun sn => (TupK.of sn).dp _ _ (to_dInst _ _) hI7
        refine ⟨.ref i, rfl, .ref A, rfl, i, A, cs, gs, ys, rfl, hIx sx, ok, sqS sx hA, hvv.1, fun H8 T s8 hT => ?_⟩
        have s78 := sx.trans s8
        refine ⟨.ref i, rfl, .ref A, rfl, st, g, i, .ref A, cs, gs, dI ys, rfl, hIx s78, ok, .of_dp (to_ints ys) (dI_sq (sqS s78 hA)), fun xs' hd hx' H9 T2 s9 hT2 => ?_, fun hb => absurd hb (by rw [vecD_iff.mpr hvv]; decide)⟩
        have exs : xs' = ys := (dI_inj hd).symm
        subst exs
        refine ⟨.ref T, rfl, .ref T2, .ref T, dAs (asOf cs gs xs'), rfl, hT2.dp, (hT.same s9).dp, (plA hvv.1).1, (plA hvv.1).2, fun H10 s10 => ⟨_, rfl, iteFF rfl ?_⟩⟩
        have s710 := s78.trans (s9.trans s10)
        refine ⟨.ref i, rfl, .ref T, rfl, i, .ref T, cs, gs, asOf cs gs xs', rfl, hIx s710, ok, hT.same (s9.trans s10), au.1, fun _ H11 T3 s11 hT3 => ?_, fun hb => absurd hb (by rw [au.2.1]; decide)⟩
        rw [au.2.2] at hT3
        exact ⟨.ref A, rfl, .ref T3, .ref A, dI xs', rfl, dI_sq hT3, dI_sq (sqS (s710.trans s11) hA), plain_ns (by rw [hvv.1]; omega), Nat.le_trans (depth_ns _) (by decide), fun H12 s12 => ⟨_, rfl, iteFF rfl ⟨_, _, rfl, s710.trans (s11.trans s12)⟩⟩⟩
      rintro σ Hx ⟨y6', y7', rfl, sx⟩
      -- three values
      have D7x := D7.same sx
      refine ⟨.ref st, rfl, st, g, t6, rfl, D7x, by omega, fun H8 vo dO D8 X8 hO fO => ?_⟩
      have tk8 : TupK H7 H8 := (TupK.of sx).trans (D7x.tup X8)
      have hI8 := tk8.dp _ _ (to_dInst _ _) hI7
      have eLv8 := X8 _ _ (sx _ _ e7) oLv1 oLv2
      have hO8 : Dq K st g H8 vo dO := (hO.weak (X' := fun a => a = st ∨ a = g) (fun a h => by
        rcases h with h | h
        · rw [h]; exact D7x.occ.1
        · rw [h]; exact D7x.occ.2)).dq (.inl rfl) (.inr rfl)
      obtain ⟨_, ca, ga, xs, e, hi, hc, hgt, hgs⟩ := inst_open hI8
      cases e
      have lx := DpAll.len hgs
      rw [List.length_map] at lx
      refine ⟨.ref i, rfl, i, _, 1, .ref ga, rfl, rfl, hi, atI_nat (j := 1) rfl, ga, rfl, ⟨_, hgt⟩, fun Dc nDc => lc_it (walk_tup (K := K) (a := ga) (xs := xs))
        (LcP H8 Dc gs (fun g => some (.int (g.2 + 1)))) (.start nDc) (fun j H _ h => sqS h.1 hgt) ?_ ?_⟩
      · rintro m v H9 H10 hm hL ⟨rfl, hv⟩
        have hv : xs[m]? = some v := hv
        have hmg : m < gs.length := by omega
        have hg : gs[m]? = some gs[m] := List.getElem?_eq_getElem hmg
        obtain ⟨gA, pA, hx, hG, hP⟩ := grp_at hgs hg
        rw [hx] at hv
        cases hv
        exact ⟨rfl, .ref gA, rfl, gA, _, 1, .int gs[m].2, rfl, rfl, sqS hL.1 hG, atI_nat (j := 1) rfl, _, _, rfl, rfl, hL.yes nDc (Same.refl _) hg rfl (by omega)⟩
      rintro H9 hL
      have e9 := hL.done (Nat.le_of_eq lx.symm)
      rw [fm_map] at e9
      have em : gs.map (fun g => V.int (g.2 + 1)) = (gs.map (fun g => g.2 + 1)).map V.int := by rw [List.map_map]; rfl
      rw [em] at e9
      refine ⟨Dc, _, rfl, .inl ⟨SqL.of e9, fun p1 n1 => ?_⟩⟩
      have s91 := hL.1.trans (sameNew (o := .tup ((gs.map (fun g => g.2 + 1)).map V.int)) n1)
      have hp1 : SqT K (upd H9 p1 (.tup ((gs.map (fun g => g.2 + 1)).map V.int))) p1 ((gs.map (fun g => g.2 + 1)).map V.int) := SqT.of upd_same
      generalize upd H9 p1 (.tup ((gs.map (fun g => g.2 + 1)).map V.int)) = H10 at s91 hp1
      refine ⟨.ref Lv, rfl, (show (0 : Nat) ≤ sizeLine by decide), fun E0 nE0 => ⟨(show (1 : Nat) ≤ sizeLine by decide), fun L1 nL1 => ?_⟩⟩
      have sE0 := sameNew (o := .tup []) nE0
      have sL1 := sameNew (o := .lst [.ref E0]) nL1
      have s10b := s91.trans (sE0.trans sL1)
      refine ⟨Lv, L1, _, _, rfl, rfl, s10b _ _ eLv8, upd_same, small6 (by simp; omega), fun L2 nL2 => ?_⟩
      have sL2 := sameNew (o := .lst (vs ++ [.ref E0])) nL2
      obtain ⟨A0, zs, hz0, hA0⟩ : ∃ A0 zs, (vs ++ [V.ref E0])[0]? = some (.ref A0) ∧ SqT K (upd (upd (upd H10 E0 (.tup [])) L1 (.lst [.ref E0])) L2 (.lst (vs ++ [.ref E0]))) A0 ((zs : List Int).map V.int) := by
        cases hvs : vs with
        | nil => exact ⟨E0, [], rfl, sqS (sL1.trans (by rw [hvs] at sL2; exact sL2)) (SqT.of upd_same)⟩
        | cons v0 vr =>
          obtain ⟨ys, hys, A, e, hA⟩ := hR7.at (show vs[0]? = some v0 by rw [hvs]; rfl)
          subst e
          refine ⟨A, ys, rfl, ?_⟩
          rw [← hvs]
          exact (tk8.trans (.of (s10b.trans sL2))).sq hA
      have s8c := s10b.trans sL2
      have eL2 : (upd (upd (upd H10 E0 (.tup [])) L1 (.lst [.ref E0])) L2 (.lst (vs ++ [.ref E0]))) L2 = some (.lst (vs ++ [.ref E0])) := upd_same
      have sp1 := sE0.trans (sL1.trans sL2)
      generalize upd (upd (upd H10 E0 (.tup [])) L1 (.lst [.ref E0])) L2 (.lst (vs ++ [.ref E0])) = H11 at s8c hA0 eL2 sp1 ⊢
      refine ⟨L2, _, 0, .ref A0, rfl, rfl, SqL.of eL2, atI_nat (j := 0) hz0, A0, _, rfl, hA0, fun Lz nLz mLz => ⟨(show (3 : Nat) ≤ sizeLine by decide), fun Od nOd => ?_⟩⟩
      have sLz := sameNew (o := .lst (zs.map V.int)) nLz
      have sOd := sameNew (o := .lst [vo, .ref p1, .ref Lz]) nOd
      have D11 := D8.same s8c
      obtain ⟨oz1, oz2⟩ := D11.off nLz
      have s8d := s8c.trans (sLz.trans sOd)
      have eOd : (upd (upd H11 Lz (.lst (zs.map V.int))) Od (.lst [vo, .ref p1, .ref Lz])) Od = some (.lst [vo, .ref p1, .ref Lz]) := upd_same
      have hvals : ∀ v ∈ [vo, .ref p1, .ref Lz], ∃ d, Dq K st g (upd (upd H11 Lz (.lst (zs.map V.int))) Od (.lst [vo, .ref p1, .ref Lz])) v d := by
        intro v hv
        simp only [List.mem_cons, List.not_mem_nil, or_false] at hv
        rcases hv with rfl | rfl | rfl
        · exact ⟨dO, hO8.lasts (.of s8d)⟩
        · exact ⟨dI (gs.map (fun g => g.2 + 1)), .of_dp (to_ints _) (dI_sq (sqS (sp1.trans (sLz.trans sOd)) hp1))⟩
        · exact ⟨.list (zs.map PyData.int), .lst (sOd _ _ upd_same) oz1 oz2 mLz (dq_ints zs)⟩
      have D12 := D8.same s8d
      have hI12 := (TupK.of s8d).dp _ _ (to_dInst _ _) hI8
      generalize hl3 : [vo, V.ref p1, V.ref Lz] = vs3 at *
      have l3 : vs3.length = 3 := by rw [← hl3]; rfl
      generalize upd (upd H11 Lz (.lst (zs.map V.int))) Od (.lst vs3) = H12 at eOd hvals D12 hI12 ⊢
      have hIx : ∀ {Hn : Hp}, Same H12 Hn → Dp K Hn (.ref i) (dInst cs gs) := fun sn => (TupK.of sn).dp _ _ (to_dInst _ _) hI12
      refine ⟨.ref Od, rfl, Od, rfl, ⟨_, SqL.of eOd⟩, for_it (walk_list (K := K) (a := Od) (xs := vs3))
        (fun k σ Hx => ∃ (y6 y7 y9 : Option V), σ = [some (.ref a), some (.ref st), some (.int (0 + (j : Nat))), some (.int top), some (.ref i), some (.ref Lv), y6, y7, some (.ref Od), y9, y10, y11, y12, y13, none] ∧ Same H12 Hx)
        ⟨_, _, _, rfl, Same.refl _⟩ (fun k σ Hx _ h => by obtain ⟨_, _, _, _, s9⟩ := h; exact SqL.of (s9 _ _ eOd)) ?_ ?_⟩
      · rintro k v σ Hx Hx' hk ⟨y6'', y7'', y9'', rfl, sx⟩ ⟨rfl, hv⟩
        have hv : vs3[k]? = some v := hv
        obtain ⟨d, hd0⟩ := hvals v (List.mem_of_getElem? hv)
        have hd : ∀ {Hn : Hp}, Same H12 Hn → Dq K st g Hn v d := fun sn => hd0.lasts (.of sn)
        dsimp only [gName]
        refine ⟨.ref i, rfl, v, rfl, st, g, i, v, cs, gs, d, rfl, hIx sx, ok, hd sx, fun H13 s13 => ⟨_, rfl, ?_⟩⟩
        have s13x := sx.trans s13
        cases hb : isVecD cs gs d with
        | false =>
          refine iteF ?_
          refine ⟨.ref i, rfl, v, rfl, st, g, i, v, cs, gs, d, rfl, hIx s13x, ok, hd s13x, fun xs' hd' hx' => absurd (vecD_iff.mpr hx') (by rw [← hd', hb]; decide), fun _ H14 s14 => ?_⟩
          exact ⟨_, rfl, _, _, .str "BadVector", rfl, .str _, .str _, rfl, by simp [PyData.depth], fun H15 s15 => ⟨_, rfl, iteFF rfl ⟨_, _, _, rfl, s13x.trans (s14.trans s15)⟩⟩⟩
        | true =>
          obtain ⟨ys, rfl, hvv⟩ := vec_shape hb
          obtain ⟨V0, rfl, hV⟩ : ∃ V0, v = .ref V0 ∧ SqT K H12 V0 (ys.map V.int) := by
            cases hd0 with
            | tup h1 h2 => exact ⟨_, rfl, sq_dI (Dq.to_dp (to_ints ys) (.tup h1 h2))⟩
          refine iteT ?_
          refine ⟨.ref i, rfl, .ref V0, rfl, i, V0, cs, gs, ys, rfl, hIx s13x, ok, sqS s13x hV, hvv.1, fun H14 T s14 hT => ?_⟩
          have s14x := s13x.trans s14
          refine ⟨.ref i, rfl, .ref V0, rfl, st, g, i, .ref V0, cs, gs, dI ys, rfl, hIx s14x, ok, hd s14x, fun xs' hd' hx' H15 T2 s15 hT2 => ?_, fun hb' => absurd hb' (by rw [hb]; decide)⟩
          have exs : xs' = ys := (dI_inj hd').symm
          subst exs
          exact ⟨.ref T, rfl, .ref T2, .ref T, dAs (asOf cs gs xs'), rfl, hT2.dp, (hT.same s15).dp, (plA hvv.1).1, (plA hvv.1).2, fun H16 s16 => ⟨_, rfl, iteFF rfl ⟨_, _, _, rfl, s14x.trans (s15.trans s16)⟩⟩⟩
      rintro σ Hx ⟨y6'', y7'', y9'', rfl, sx⟩
      -- drawn assignments
      have D13 := D12.same sx
      have hI13 := hIx sx
      refine ⟨8, rfl, by omega, by omega, for_it (walk_range (lo := 0) (n := (8 : Int).toNat))
        (fun k σ Hy => ∃ (ty : Nat) (y10 y11 y12 y13 : Option V), σ = [some (.ref a), some (.ref st), some (.int (0 + (j : Nat))), some (.int top), some (.ref i), some (.ref Lv), y6'', y7'', some (.ref Od), y9'', y10, y11, y12, y13, none] ∧ DV Hy st g ty ∧ ty ≤ t6 + 1 + 200 * k ∧ Dp K Hy (.ref i) (dInst cs gs))
        ⟨t6 + 1, _, _, _, _, rfl, D13, by omega, hI13⟩ (fun _ _ _ _ _ => trivial) ?_ ?_⟩
      · rintro k v σ Hy Hy' hk ⟨ty, z10, z11, z12, z13, rfl, Dy, hty, hIy⟩ ⟨rfl, rfl⟩
        have hk : k < 8 := hk
        dsimp only
        refine ⟨.ref st, rfl, .ref i, rfl, st, g, ty, i, cs, gs, rfl, Dy, by omega, hIy, ok, fun H14 T t14 rows D14 ht14 X14 hT hAsg => ?_⟩
        have hI14 := (Dy.tup X14).dp _ _ (to_dInst _ _) hIy
        have hbd := asg_le ok hAsg
        have lrow := hAsg.shp.1
        have fI : Fit (10 ^ 29) 5 20000 (dInst cs gs) := by
          refine fit_dInst ⟨by omega, fun x hx => ?_⟩ (by omega) (fun g' hg' => ⟨(by have := (ok.gp g' hg').1; omega), fun x hx => ?_, ?_⟩)
          · have h1 := ok.cb x hx; omega
          · have h1 := (ok.gp g' hg').2.1 x hx; omega
          · have h1 := (ok.gp g' hg').2.2; omega
        have fA : Fit (10 ^ 29) 2 10000 (dAs rows) := fit_dAsg (fun r hr => ⟨by have := (hbd r hr).1; omega, fun x hx => by have := (hbd r hr).2 x hx; omega⟩) (by omega)
        have shP := fit_pair (M := 10 ^ 29) (by decide) fI (fA.mono (Nat.le_refl _) (by decide) (by decide)) (show 5 ≤ 50 by decide) (show 20000 ≤ 1000000 by decide)
        have tup : ∀ {Hn : Hp}, Same H14 Hn → Dq K st g Hn (.ref i) (dInst cs gs) ∧ Dq K st g Hn (.ref T) (dAs rows) := fun sn => ⟨Dq.of_dp (to_dInst _ _) ((TupK.of sn).dp _ _ (to_dInst _ _) hI14), Dq.of_dp (to_dAs rows) (hT.same sn).dp⟩
        refine ⟨.ref i, rfl, .ref T, rfl, (show (2 : Nat) ≤ sizeLine by decide), fun L1 n1 m1 => ?_⟩
        have sL1 := sameNew (o := .lst [.ref i, .ref T]) n1
        have of1 := D14.off n1
        refine ⟨_, _, st, g, rfl, .lst upd_same of1.1 of1.2 m1 (.cons (tup sL1).1 (.cons (tup sL1).2 .nil)), shP.1, shP.2.1, shP.2.2, ?_⟩
        have hIn : ∀ {Hn : Hp}, Same H14 Hn → Dp K Hn (.ref i) (dInst cs gs) := fun sn => (TupK.of sn).dp _ _ (to_dInst _ _) hI14
        generalize upd H14 L1 (.lst [.ref i, .ref T]) = H15 at sL1 ⊢
        refine ⟨.ref i, rfl, .ref T, rfl, i, .ref T, cs, gs, rows, rfl, hIn sL1, ok, hT.same sL1, hAsg.shp, fun hb H16 T3 s16 hT3 => ?_, fun hb H16 s16 => ?_⟩
        · -- not beaten
          have s15 := sL1.trans s16
          have ub := unb_vec ok hAsg hb
          refine ⟨_, _, rfl, ?_⟩
          refine ⟨.ref T3, rfl, dI (vecOf cs gs rows), .str "Beaten", dI_sq hT3, .str _, shaped_dI _, shaped_Be, .ref i, rfl, .ref T, rfl, i, .ref T, cs, gs, rows, rfl, hIn s15, ok, hT.same s15, hAsg.shp, fun H17 s17 => ?_⟩
          rw [hb, eqv_dI_str]
          refine ⟨rfl, _, rfl, iteFF (by decide) ?_⟩
          have s17x := s15.trans s17
          refine ⟨.ref i, rfl, .ref T, rfl, (show (2 : Nat) ≤ sizeLine by decide), fun L2 n2 m2 => ?_⟩
          have sL2 := s17x.trans (sameNew (o := .lst [.ref i, .ref T]) n2)
          have of2 := (D14.same s17x).off n2
          refine ⟨_, _, st, g, rfl, .lst upd_same of2.1 of2.2 m2 (.cons (tup sL2).1 (.cons (tup sL2).2 .nil)), shP.1, shP.2.1, shP.2.2, _, rfl, rfl, _, rfl, iteFF (by simp) ?_⟩
          have s17L := s17.trans (sameNew (o := .lst [.ref i, .ref T]) n2)
          generalize upd H17 L2 (.lst [.ref i, .ref T]) = H18 at sL2 s17L ⊢
          refine ⟨.ref T3, rfl, dI (vecOf cs gs rows), .str "Beaten", dI_sq (sqS s17L hT3), .str _, shaped_dI _, shaped_Be, _, rfl, iteTr (by rw [eqv_dI_str]; rfl) ?_⟩
          refine ⟨.ref i, rfl, .ref T3, rfl, st, g, i, .ref T3, cs, gs, dI (vecOf cs gs rows), rfl, hIn sL2, ok, .of_dp (to_ints _) (dI_sq (sqS s17L hT3)), fun xs' hd' hx' H19 T4 s19 hT4 => ?_, fun hb' => absurd hb' (by rw [vecD_iff.mpr ub.1]; decide)⟩
          rw [← dI_inj hd', ub.2] at hT4
          have plR : plain (dAs rows) = true ∧ (dAs rows).depth ≤ 2 := by
            have := plA ub.1.1
            rw [ub.2] at this
            exact this
          exact ⟨.ref T, rfl, .ref T4, .ref T, dAs rows, rfl, hT4.dp, (hT.same (sL2.trans s19)).dp, plR.1, plR.2, fun H20 s20 => ⟨_, rfl, iteFF rfl ⟨t14, _, _, _, _, rfl, D14.same (sL2.trans (s19.trans s20)), by omega, hIn (sL2.trans (s19.trans s20))⟩⟩⟩
        · -- beaten
          have s15 := sL1.trans s16
          refine ⟨_, _, rfl, ?_⟩
          refine ⟨.str "Beaten", rfl, .str "Beaten", .str "Beaten", .str _, .str _, shaped_Be, shaped_Be, .ref i, rfl, .ref T, rfl, i, .ref T, cs, gs, rows, rfl, hIn s15, ok, hT.same s15, hAsg.shp, fun H17 s17 => ?_⟩
          rw [hb, eqv_str_self]
          refine ⟨rfl, _, rfl, iteFF (by decide) ?_⟩
          have s17x := s15.trans s17
          refine ⟨.ref i, rfl, .ref T, rfl, (show (2 : Nat) ≤ sizeLine by decide), fun L2 n2 m2 => ?_⟩
          have sL2 := s17x.trans (sameNew (o := .lst [.ref i, .ref T]) n2)
          have of2 := (D14.same s17x).off n2
          refine ⟨_, _, st, g, rfl, .lst upd_same of2.1 of2.2 m2 (.cons (tup sL2).1 (.cons (tup sL2).2 .nil)), shP.1, shP.2.1, shP.2.2, _, rfl, rfl, _, rfl, iteFF (by simp) ?_⟩
          have s17L := s17.trans (sameNew (o := .lst [.ref i, .ref T]) n2)
          generalize upd H17 L2 (.lst [.ref i, .ref T]) = H18 at sL2 s17L ⊢
          refine ⟨.str "Beaten", rfl, .str "Beaten", .str "Beaten", .str _, .str _, shaped_Be, shaped_Be, _, rfl, iteFF (by rw [eqv_str_self]; rfl) (iteF ?_)⟩
          exact ⟨t14, _, _, _, _, rfl, D14.same sL2, by omega, hIn sL2⟩
      rintro σ Hy ⟨ty, z10, z11, z12, z13, rfl, Dy, hty, hIy⟩
      have e8 : (8 : Int).toNat = 8 := rfl
      rw [e8] at hty
      exact ⟨ty, _, _, _, _, _, _, _, _, _, _, _, _, rfl, Dy, by omega⟩
    rintro σ H2 ⟨t, y2, y3, y4, y5, y6, y7, y8, y9, y10, y11, y12, y13, rfl, D2, ht⟩
    exact q _
end
end Pv

namespace Pv
open PySem PySem.Spec PyProof.Rows L2
abbrev siNU : Stmt := inCls (topS 9) 0
theorem sciNU : FnScope ["self", "crowded", "reserves"] ["self", "crowded", "reserves"] (defScope siNU) := ⟨rfl, rfl, rfl, by decide +kernel, rfl, by decide +kernel, by decide +kernel⟩
theorem ok_iNU {P : Program} {w : World} {K : PySem.W.Frag} {mg : Str → Option Value} {base : Heap} {f C : Addr} {fd : FuncData} (F : Fun K "__init__" "NoUnbeaten.__init__" siNU f fd) (X : XF2 K C f "crowded" "reserves") : FnOk P w K mg base CX0 1 f fd ["self", "crowded", "reserves"] (spI2 C "crowded" "reserves") := by
  refine F.ok sciNU (fun vs H Q E h => ?_) (fun cdv A outer s H vs Q E hr h => ?_)
  · obtain ⟨a, v, w', rfl, _⟩ := h; rfl
  · obtain ⟨a, v, w', rfl, hH, q⟩ := h
    refine ⟨_, pss_cons (ps_ost (pv 0) (pv 1)) (pss_one (ps_ost (pv 0) (pv 2))), ?_⟩
    refine ⟨v, rfl, .ref a, rfl, a, C, rfl, X.T, X.no1, .inl ⟨hH, fun dx nd ne => ?_⟩⟩
    refine ⟨w', rfl, .ref a, rfl, a, C, rfl, X.T, X.no2, .inr ⟨dx, [("crowded", v)], upd_same, by rw [upd_ne ne]; exact upd_same, by simp, ?_⟩⟩
    have := q dx nd ne
    have e : upd (upd (upd H dx (exd dx [("crowded", v)])) a (exo a C (some dx))) dx (exd dx [("reserves", w'), ("crowded", v)]) = upd (upd H dx (exd dx [("reserves", w'), ("crowded", v)])) a (exo a C (some dx)) := by
      funext b
      by_cases h1 : b = dx
      · rw [h1, upd_same, upd_ne ne, upd_same]
      · rw [upd_ne h1]
        by_cases h2 : b = a
        · rw [h2, upd_same, upd_same]
        · rw [upd_ne h2, upd_ne h2, upd_ne h1, upd_ne h1]
    rw [← e] at this
    exact this
end Pv

namespace Pv
open PySem PySem.Spec PyProof.Rows L2
/-! what the top has left -/
set_option maxHeartbeats 8000000 in
theorem all_mk {l : PySem.W.OpenLaw} {w : World} {K : PySem.W.Frag} {h : Heap} {mg : Str → Option Value} {fa fWh fWi fTo fOp fDm fEx fFr fCl fCr fRe fGr fFc fSs fAs fSc fOr fSl fUb fOy fAc fIv fMn fVo fAo fFv fLsv fEv fSt fDr fSm fAm fIn fLd fLr fLw fLo fLv fLa fOd fLt fLq fLu fLk fLh fLx fLaw : Addr} (X : K.In h) (G : h.Ns mainGlobals mg) (hfa : mg "law" = some (.ref fa))
    {odWh anWh odWi anWi odTo anTo odOp anOp odDm anDm odEx anEx odFr anFr odCl anCl odCr anCr odRe anRe odGr anGr odFc anFc odSs anSs odAs anAs odSc anSc odOr anOr odSl anSl odUb anUb odOy anOy odAc anAc odIv anIv odMn anMn odVo anVo odAo anAo odFv anFv odLsv anLsv odEv anEv odSt anSt odDr anDr odSm anSm odAm anAm odIn anIn odLd anLd odLr anLr odLw anLw odLo anLo odLv anLv odLa anLa odOd anOd odLt anLt odLq anLq odLu anLu odLk anLk odLh anLh odLx anLx odLaw anLaw : Option Addr} {slWh slWi slTo slOp slDm slEx slFr slCl slCr slRe slGr slFc slSs slAs slSc slOr slSl slUb slOy slAc slIv slMn slVo slAo slFv slLsv slEv slSt slDr slSm slAm slIn slLd slLr slLw slLo slLv slLa slOd slLt slLq slLu slLk slLh slLx slLaw : Array (Option Value)}
    {ocWh kVWh dcWh pmWh cdWh ctWh ocWi kVWi dcWi pmWi cdWi ctWi ocTo kVTo dcTo pmTo cdTo ctTo ocOp kVOp dcOp pmOp cdOp ctOp ocDm kVDm dcDm pmDm cdDm ctDm ocEx kVEx dcEx pmEx cdEx ctEx ocFr kVFr dcFr pmFr cdFr ctFr ocCl kVCl dcCl pmCl cdCl ctCl ocCr kVCr dcCr pmCr cdCr ctCr ocRe kVRe dcRe pmRe cdRe ctRe ocGr kVGr dcGr pmGr cdGr ctGr ocFc kVFc dcFc pmFc cdFc ctFc ocSs kVSs dcSs pmSs cdSs ctSs ocAs kVAs dcAs pmAs cdAs ctAs ocSc kVSc dcSc pmSc cdSc ctSc ocOr kVOr dcOr pmOr cdOr ctOr ocSl kVSl dcSl pmSl cdSl ctSl ocUb kVUb dcUb pmUb cdUb ctUb ocOy kVOy dcOy pmOy cdOy ctOy ocAc kVAc dcAc pmAc cdAc ctAc ocIv kVIv dcIv pmIv cdIv ctIv ocMn kVMn dcMn pmMn cdMn ctMn ocVo kVVo dcVo pmVo cdVo ctVo ocAo kVAo dcAo pmAo cdAo ctAo ocFv kVFv dcFv pmFv cdFv ctFv ocLsv kVLsv dcLsv pmLsv cdLsv ctLsv ocEv kVEv dcEv pmEv cdEv ctEv ocSt kVSt dcSt pmSt cdSt ctSt ocDr kVDr dcDr pmDr cdDr ctDr ocSm kVSm dcSm pmSm cdSm ctSm ocAm kVAm dcAm pmAm cdAm ctAm ocIn kVIn dcIn pmIn cdIn ctIn ocLd kVLd dcLd pmLd cdLd ctLd ocLr kVLr dcLr pmLr cdLr ctLr ocLw kVLw dcLw pmLw cdLw ctLw ocLo kVLo dcLo pmLo cdLo ctLo ocLv kVLv dcLv pmLv cdLv ctLv ocLa kVLa dcLa pmLa cdLa ctLa ocOd kVOd dcOd pmOd cdOd ctOd ocLt kVLt dcLt pmLt cdLt ctLt ocLq kVLq dcLq pmLq cdLq ctLq ocLu kVLu dcLu pmLu cdLu ctLu ocLk kVLk dcLk pmLk cdLk ctLk ocLh kVLh dcLh pmLh cdLh ctLh ocLx kVLx dcLx pmLx cdLx ctLx ocLaw kVLaw dcLaw pmLaw cdLaw ctLaw : Value}
    (aWh : PySem.W.nsIn K mainGlobals "is_whole" = some (some (.ref fWh))) (lWh : K.lookup fWh = some ⟨ocWh, odWh, .func (PySem.W.fnOf "is_whole" "is_whole" (defArgs sWhole) (defBody sWhole) (defScope sWhole) .none kVWh dcWh pmWh anWh cdWh ctWh), slWh⟩)
      (cWh : PySem.W.codeIn K cdWh "is_whole" = true) (kWh : PySem.W.keepIn K (.ref fWh) = true)
    (aWi : PySem.W.nsIn K mainGlobals "is_within" = some (some (.ref fWi))) (lWi : K.lookup fWi = some ⟨ocWi, odWi, .func (PySem.W.fnOf "is_within" "is_within" (defArgs sWithin) (defBody sWithin) (defScope sWithin) .none kVWi dcWi pmWi anWi cdWi ctWi), slWi⟩)
      (cWi : PySem.W.codeIn K cdWi "is_within" = true) (kWi : PySem.W.keepIn K (.ref fWi) = true)
    (aTo : PySem.W.nsIn K mainGlobals "is_tuple_of" = some (some (.ref fTo))) (lTo : K.lookup fTo = some ⟨ocTo, odTo, .func (PySem.W.fnOf "is_tuple_of" "is_tuple_of" (defArgs sTupOf) (defBody sTupOf) (defScope sTupOf) .none kVTo dcTo pmTo anTo cdTo ctTo), slTo⟩)
      (cTo : PySem.W.codeIn K cdTo "is_tuple_of" = true) (kTo : PySem.W.keepIn K (.ref fTo) = true)
    (aOp : PySem.W.nsIn K mainGlobals "option_post" = some (some (.ref fOp))) (lOp : K.lookup fOp = some ⟨ocOp, odOp, .func (PySem.W.fnOf "option_post" "option_post" (defArgs sOpt) (defBody sOpt) (defScope sOpt) .none kVOp dcOp pmOp anOp cdOp ctOp), slOp⟩)
      (cOp : PySem.W.codeIn K cdOp "option_post" = true) (kOp : PySem.W.keepIn K (.ref fOp) = true)
    (aDm : PySem.W.nsIn K mainGlobals "demands" = some (some (.ref fDm))) (lDm : K.lookup fDm = some ⟨ocDm, odDm, .func (PySem.W.fnOf "demands" "demands" (defArgs sDem) (defBody sDem) (defScope sDem) .none kVDm dcDm pmDm anDm cdDm ctDm), slDm⟩)
      (cDm : PySem.W.codeIn K cdDm "demands" = true) (kDm : PySem.W.keepIn K (.ref fDm) = true)
    (aEx : PySem.W.nsIn K mainGlobals "excesses" = some (some (.ref fEx))) (lEx : K.lookup fEx = some ⟨ocEx, odEx, .func (PySem.W.fnOf "excesses" "excesses" (defArgs sExc) (defBody sExc) (defScope sExc) .none kVEx dcEx pmEx anEx cdEx ctEx), slEx⟩)
      (cEx : PySem.W.codeIn K cdEx "excesses" = true) (kEx : PySem.W.keepIn K (.ref fEx) = true)
    (aFr : PySem.W.nsIn K mainGlobals "free_places" = some (some (.ref fFr))) (lFr : K.lookup fFr = some ⟨ocFr, odFr, .func (PySem.W.fnOf "free_places" "free_places" (defArgs sFre) (defBody sFre) (defScope sFre) .none kVFr dcFr pmFr anFr cdFr ctFr), slFr⟩)
      (cFr : PySem.W.codeIn K cdFr "free_places" = true) (kFr : PySem.W.keepIn K (.ref fFr) = true)
    (aCl : PySem.W.nsIn K mainGlobals "claimed_posts" = some (some (.ref fCl))) (lCl : K.lookup fCl = some ⟨ocCl, odCl, .func (PySem.W.fnOf "claimed_posts" "claimed_posts" (defArgs sCla) (defBody sCla) (defScope sCla) .none kVCl dcCl pmCl anCl cdCl ctCl), slCl⟩)
      (cCl : PySem.W.codeIn K cdCl "claimed_posts" = true) (kCl : PySem.W.keepIn K (.ref fCl) = true)
    (aCr : PySem.W.nsIn K mainGlobals "crowded_posts" = some (some (.ref fCr))) (lCr : K.lookup fCr = some ⟨ocCr, odCr, .func (PySem.W.fnOf "crowded_posts" "crowded_posts" (defArgs sCro) (defBody sCro) (defScope sCro) .none kVCr dcCr pmCr anCr cdCr ctCr), slCr⟩)
      (cCr : PySem.W.codeIn K cdCr "crowded_posts" = true) (kCr : PySem.W.keepIn K (.ref fCr) = true)
    (aRe : PySem.W.nsIn K mainGlobals "reserve_option" = some (some (.ref fRe))) (lRe : K.lookup fRe = some ⟨ocRe, odRe, .func (PySem.W.fnOf "reserve_option" "reserve_option" (defArgs sRes) (defBody sRes) (defScope sRes) .none kVRe dcRe pmRe anRe cdRe ctRe), slRe⟩)
      (cRe : PySem.W.codeIn K cdRe "reserve_option" = true) (kRe : PySem.W.keepIn K (.ref fRe) = true)
    (aGr : PySem.W.nsIn K mainGlobals "group_routes" = some (some (.ref fGr))) (lGr : K.lookup fGr = some ⟨ocGr, odGr, .func (PySem.W.fnOf "group_routes" "group_routes" (defArgs sGr) (defBody sGr) (defScope sGr) .none kVGr dcGr pmGr anGr cdGr ctGr), slGr⟩)
      (cGr : PySem.W.codeIn K cdGr "group_routes" = true) (kGr : PySem.W.keepIn K (.ref fGr) = true)
    (aFc : PySem.W.nsIn K mainGlobals "find_cuts" = some (some (.ref fFc))) (lFc : K.lookup fFc = some ⟨ocFc, odFc, .func (PySem.W.fnOf "find_cuts" "find_cuts" (defArgs sFc) (defBody sFc) (defScope sFc) .none kVFc dcFc pmFc anFc cdFc ctFc), slFc⟩)
      (cFc : PySem.W.codeIn K cdFc "find_cuts" = true) (kFc : PySem.W.keepIn K (.ref fFc) = true)
    (aSs : PySem.W.nsIn K mainGlobals "starting_signs" = some (some (.ref fSs))) (lSs : K.lookup fSs = some ⟨ocSs, odSs, .func (PySem.W.fnOf "starting_signs" "starting_signs" (defArgs sSs) (defBody sSs) (defScope sSs) .none kVSs dcSs pmSs anSs cdSs ctSs), slSs⟩)
      (cSs : PySem.W.codeIn K cdSs "starting_signs" = true) (kSs : PySem.W.keepIn K (.ref fSs) = true)
    (aAs : PySem.W.nsIn K mainGlobals "all_subsets" = some (some (.ref fAs))) (lAs : K.lookup fAs = some ⟨ocAs, odAs, .func (PySem.W.fnOf "all_subsets" "all_subsets" (defArgs sAs) (defBody sAs) (defScope sAs) .none kVAs dcAs pmAs anAs cdAs ctAs), slAs⟩)
      (cAs : PySem.W.codeIn K cdAs "all_subsets" = true) (kAs : PySem.W.keepIn K (.ref fAs) = true)
    (aSc : PySem.W.nsIn K mainGlobals "set_cut" = some (some (.ref fSc))) (lSc : K.lookup fSc = some ⟨ocSc, odSc, .func (PySem.W.fnOf "set_cut" "set_cut" (defArgs sSc) (defBody sSc) (defScope sSc) .none kVSc dcSc pmSc anSc cdSc ctSc), slSc⟩)
      (cSc : PySem.W.codeIn K cdSc "set_cut" = true) (kSc : PySem.W.keepIn K (.ref fSc) = true)
    (aOr : PySem.W.nsIn K mainGlobals "open_range" = some (some (.ref fOr))) (lOr : K.lookup fOr = some ⟨ocOr, odOr, .func (PySem.W.fnOf "open_range" "open_range" (defArgs sOr) (defBody sOr) (defScope sOr) .none kVOr dcOr pmOr anOr cdOr ctOr), slOr⟩)
      (cOr : PySem.W.codeIn K cdOr "open_range" = true) (kOr : PySem.W.keepIn K (.ref fOr) = true)
    (aSl : PySem.W.nsIn K mainGlobals "slacks_left" = some (some (.ref fSl))) (lSl : K.lookup fSl = some ⟨ocSl, odSl, .func (PySem.W.fnOf "slacks_left" "slacks_left" (defArgs sSl) (defBody sSl) (defScope sSl) .none kVSl dcSl pmSl anSl cdSl ctSl), slSl⟩)
      (cSl : PySem.W.codeIn K cdSl "slacks_left" = true) (kSl : PySem.W.keepIn K (.ref fSl) = true)
    (aUb : PySem.W.nsIn K mainGlobals "is_unbeaten" = some (some (.ref fUb))) (lUb : K.lookup fUb = some ⟨ocUb, odUb, .func (PySem.W.fnOf "is_unbeaten" "is_unbeaten" (defArgs sUb) (defBody sUb) (defScope sUb) .none kVUb dcUb pmUb anUb cdUb ctUb), slUb⟩)
      (cUb : PySem.W.codeIn K cdUb "is_unbeaten" = true) (kUb : PySem.W.keepIn K (.ref fUb) = true)
    (aOy : PySem.W.nsIn K mainGlobals "only_reserves" = some (some (.ref fOy))) (lOy : K.lookup fOy = some ⟨ocOy, odOy, .func (PySem.W.fnOf "only_reserves" "only_reserves" (defArgs sOy) (defBody sOy) (defScope sOy) .none kVOy dcOy pmOy anOy cdOy ctOy), slOy⟩)
      (cOy : PySem.W.codeIn K cdOy "only_reserves" = true) (kOy : PySem.W.keepIn K (.ref fOy) = true)
    (aAc : PySem.W.nsIn K mainGlobals "all_claims_met" = some (some (.ref fAc))) (lAc : K.lookup fAc = some ⟨ocAc, odAc, .func (PySem.W.fnOf "all_claims_met" "all_claims_met" (defArgs sAc) (defBody sAc) (defScope sAc) .none kVAc dcAc pmAc anAc cdAc ctAc), slAc⟩)
      (cAc : PySem.W.codeIn K cdAc "all_claims_met" = true) (kAc : PySem.W.keepIn K (.ref fAc) = true)
    (aIv : PySem.W.nsIn K mainGlobals "is_vector" = some (some (.ref fIv))) (lIv : K.lookup fIv = some ⟨ocIv, odIv, .func (PySem.W.fnOf "is_vector" "is_vector" (defArgs sIv) (defBody sIv) (defScope sIv) .none kVIv dcIv pmIv anIv cdIv ctIv), slIv⟩)
      (cIv : PySem.W.codeIn K cdIv "is_vector" = true) (kIv : PySem.W.keepIn K (.ref fIv) = true)
    (aMn : PySem.W.nsIn K mainGlobals "meets_needs" = some (some (.ref fMn))) (lMn : K.lookup fMn = some ⟨ocMn, odMn, .func (PySem.W.fnOf "meets_needs" "meets_needs" (defArgs sMn) (defBody sMn) (defScope sMn) .none kVMn dcMn pmMn anMn cdMn ctMn), slMn⟩)
      (cMn : PySem.W.codeIn K cdMn "meets_needs" = true) (kMn : PySem.W.keepIn K (.ref fMn) = true)
    (aVo : PySem.W.nsIn K mainGlobals "vector_of" = some (some (.ref fVo))) (lVo : K.lookup fVo = some ⟨ocVo, odVo, .func (PySem.W.fnOf "vector_of" "vector_of" (defArgs sVo) (defBody sVo) (defScope sVo) .none kVVo dcVo pmVo anVo cdVo ctVo), slVo⟩)
      (cVo : PySem.W.codeIn K cdVo "vector_of" = true) (kVo : PySem.W.keepIn K (.ref fVo) = true)
    (aAo : PySem.W.nsIn K mainGlobals "assignment_of" = some (some (.ref fAo))) (lAo : K.lookup fAo = some ⟨ocAo, odAo, .func (PySem.W.fnOf "assignment_of" "assignment_of" (defArgs sAo) (defBody sAo) (defScope sAo) .none kVAo dcAo pmAo anAo cdAo ctAo), slAo⟩)
      (cAo : PySem.W.codeIn K cdAo "assignment_of" = true) (kAo : PySem.W.keepIn K (.ref fAo) = true)
    (aFv : PySem.W.nsIn K mainGlobals "first_vector" = some (some (.ref fFv))) (lFv : K.lookup fFv = some ⟨ocFv, odFv, .func (PySem.W.fnOf "first_vector" "first_vector" (defArgs sFv) (defBody sFv) (defScope sFv) .none kVFv dcFv pmFv anFv cdFv ctFv), slFv⟩)
      (cFv : PySem.W.codeIn K cdFv "first_vector" = true) (kFv : PySem.W.keepIn K (.ref fFv) = true)
    (aLsv : PySem.W.nsIn K mainGlobals "last_vector" = some (some (.ref fLsv))) (lLsv : K.lookup fLsv = some ⟨ocLsv, odLsv, .func (PySem.W.fnOf "last_vector" "last_vector" (defArgs sLsv) (defBody sLsv) (defScope sLsv) .none kVLsv dcLsv pmLsv anLsv cdLsv ctLsv), slLsv⟩)
      (cLsv : PySem.W.codeIn K cdLsv "last_vector" = true) (kLsv : PySem.W.keepIn K (.ref fLsv) = true)
    (aEv : PySem.W.nsIn K mainGlobals "extreme_vector" = some (some (.ref fEv))) (lEv : K.lookup fEv = some ⟨ocEv, odEv, .func (PySem.W.fnOf "extreme_vector" "extreme_vector" (defArgs sEv) (defBody sEv) (defScope sEv) .none kVEv dcEv pmEv anEv cdEv ctEv), slEv⟩)
      (cEv : PySem.W.codeIn K cdEv "extreme_vector" = true) (kEv : PySem.W.keepIn K (.ref fEv) = true)
    (aSt : PySem.W.nsIn K mainGlobals "_law_begin" = some (some (.ref fSt))) (lSt : K.lookup fSt = some ⟨ocSt, odSt, .func (PySem.W.fnOf "_law_begin" "_law_begin" (defArgs sSt) (defBody sSt) (defScope sSt) .none kVSt dcSt pmSt anSt cdSt ctSt), slSt⟩)
      (cSt : PySem.W.codeIn K cdSt "_law_begin" = true) (kSt : PySem.W.keepIn K (.ref fSt) = true)
    (aDr : PySem.W.nsIn K mainGlobals "_law_next" = some (some (.ref fDr))) (lDr : K.lookup fDr = some ⟨ocDr, odDr, .func (PySem.W.fnOf "_law_next" "_law_next" (defArgs sDr) (defBody sDr) (defScope sDr) .none kVDr dcDr pmDr anDr cdDr ctDr), slDr⟩)
      (cDr : PySem.W.codeIn K cdDr "_law_next" = true) (kDr : PySem.W.keepIn K (.ref fDr) = true)
    (aSm : PySem.W.nsIn K mainGlobals "_law_same" = some (some (.ref fSm))) (lSm : K.lookup fSm = some ⟨ocSm, odSm, .func (PySem.W.fnOf "_law_same" "_law_same" (defArgs sSame) (defBody sSame) (defScope sSame) .none kVSm dcSm pmSm anSm cdSm ctSm), slSm⟩)
      (cSm : PySem.W.codeIn K cdSm "_law_same" = true) (kSm : PySem.W.keepIn K (.ref fSm) = true)
    (aAm : PySem.W.nsIn K mainGlobals "_law_amount" = some (some (.ref fAm))) (lAm : K.lookup fAm = some ⟨ocAm, odAm, .func (PySem.W.fnOf "_law_amount" "_law_amount" (defArgs sAm) (defBody sAm) (defScope sAm) .none kVAm dcAm pmAm anAm cdAm ctAm), slAm⟩)
      (cAm : PySem.W.codeIn K cdAm "_law_amount" = true) (kAm : PySem.W.keepIn K (.ref fAm) = true)
    (aIn : PySem.W.nsIn K mainGlobals "_law_instance" = some (some (.ref fIn))) (lIn : K.lookup fIn = some ⟨ocIn, odIn, .func (PySem.W.fnOf "_law_instance" "_law_instance" (defArgs sIn) (defBody sIn) (defScope sIn) .none kVIn dcIn pmIn anIn cdIn ctIn), slIn⟩)
      (cIn : PySem.W.codeIn K cdIn "_law_instance" = true) (kIn : PySem.W.keepIn K (.ref fIn) = true)
    (aLd : PySem.W.nsIn K mainGlobals "_law_demand" = some (some (.ref fLd))) (lLd : K.lookup fLd = some ⟨ocLd, odLd, .func (PySem.W.fnOf "_law_demand" "_law_demand" (defArgs sLd) (defBody sLd) (defScope sLd) .none kVLd dcLd pmLd anLd cdLd ctLd), slLd⟩)
      (cLd : PySem.W.codeIn K cdLd "_law_demand" = true) (kLd : PySem.W.keepIn K (.ref fLd) = true)
    (aLr : PySem.W.nsIn K mainGlobals "_law_reserve" = some (some (.ref fLr))) (lLr : K.lookup fLr = some ⟨ocLr, odLr, .func (PySem.W.fnOf "_law_reserve" "_law_reserve" (defArgs sLr) (defBody sLr) (defScope sLr) .none kVLr dcLr pmLr anLr cdLr ctLr), slLr⟩)
      (cLr : PySem.W.codeIn K cdLr "_law_reserve" = true) (kLr : PySem.W.keepIn K (.ref fLr) = true)
    (aLw : PySem.W.nsIn K mainGlobals "_law_rows" = some (some (.ref fLw))) (lLw : K.lookup fLw = some ⟨ocLw, odLw, .func (PySem.W.fnOf "_law_rows" "_law_rows" (defArgs sLw) (defBody sLw) (defScope sLw) .none kVLw dcLw pmLw anLw cdLw ctLw), slLw⟩)
      (cLw : PySem.W.codeIn K cdLw "_law_rows" = true) (kLw : PySem.W.keepIn K (.ref fLw) = true)
    (aLo : PySem.W.nsIn K mainGlobals "_law_room" = some (some (.ref fLo))) (lLo : K.lookup fLo = some ⟨ocLo, odLo, .func (PySem.W.fnOf "_law_room" "_law_room" (defArgs sLo) (defBody sLo) (defScope sLo) .none kVLo dcLo pmLo anLo cdLo ctLo), slLo⟩)
      (cLo : PySem.W.codeIn K cdLo "_law_room" = true) (kLo : PySem.W.keepIn K (.ref fLo) = true)
    (aLv : PySem.W.nsIn K mainGlobals "_law_is_vector" = some (some (.ref fLv))) (lLv : K.lookup fLv = some ⟨ocLv, odLv, .func (PySem.W.fnOf "_law_is_vector" "_law_is_vector" (defArgs sLv) (defBody sLv) (defScope sLv) .none kVLv dcLv pmLv anLv cdLv ctLv), slLv⟩)
      (cLv : PySem.W.codeIn K cdLv "_law_is_vector" = true) (kLv : PySem.W.keepIn K (.ref fLv) = true)
    (aLa : PySem.W.nsIn K mainGlobals "_law_all_vectors" = some (some (.ref fLa))) (lLa : K.lookup fLa = some ⟨ocLa, odLa, .func (PySem.W.fnOf "_law_all_vectors" "_law_all_vectors" (defArgs sLa) (defBody sLa) (defScope sLa) .none kVLa dcLa pmLa anLa cdLa ctLa), slLa⟩)
      (cLa : PySem.W.codeIn K cdLa "_law_all_vectors" = true) (kLa : PySem.W.keepIn K (.ref fLa) = true)
    (aOd : PySem.W.nsIn K mainGlobals "_law_odd" = some (some (.ref fOd))) (lOd : K.lookup fOd = some ⟨ocOd, odOd, .func (PySem.W.fnOf "_law_odd" "_law_odd" (defArgs sOd) (defBody sOd) (defScope sOd) .none kVOd dcOd pmOd anOd cdOd ctOd), slOd⟩)
      (cOd : PySem.W.codeIn K cdOd "_law_odd" = true) (kOd : PySem.W.keepIn K (.ref fOd) = true)
    (aLt : PySem.W.nsIn K mainGlobals "_law_assignment" = some (some (.ref fLt))) (lLt : K.lookup fLt = some ⟨ocLt, odLt, .func (PySem.W.fnOf "_law_assignment" "_law_assignment" (defArgs sLt) (defBody sLt) (defScope sLt) .none kVLt dcLt pmLt anLt cdLt ctLt), slLt⟩)
      (cLt : PySem.W.codeIn K cdLt "_law_assignment" = true) (kLt : PySem.W.keepIn K (.ref fLt) = true)
    (aLq : PySem.W.nsIn K mainGlobals "_law_some_assignment" = some (some (.ref fLq))) (lLq : K.lookup fLq = some ⟨ocLq, odLq, .func (PySem.W.fnOf "_law_some_assignment" "_law_some_assignment" (defArgs sLq) (defBody sLq) (defScope sLq) .none kVLq dcLq pmLq anLq cdLq ctLq), slLq⟩)
      (cLq : PySem.W.codeIn K cdLq "_law_some_assignment" = true) (kLq : PySem.W.keepIn K (.ref fLq) = true)
    (aLu : PySem.W.nsIn K mainGlobals "_law_unbeaten" = some (some (.ref fLu))) (lLu : K.lookup fLu = some ⟨ocLu, odLu, .func (PySem.W.fnOf "_law_unbeaten" "_law_unbeaten" (defArgs sLu) (defBody sLu) (defScope sLu) .none kVLu dcLu pmLu anLu cdLu ctLu), slLu⟩)
      (cLu : PySem.W.codeIn K cdLu "_law_unbeaten" = true) (kLu : PySem.W.keepIn K (.ref fLu) = true)
    (aLk : PySem.W.nsIn K mainGlobals "_law_back" = some (some (.ref fLk))) (lLk : K.lookup fLk = some ⟨ocLk, odLk, .func (PySem.W.fnOf "_law_back" "_law_back" (defArgs sLk) (defBody sLk) (defScope sLk) .none kVLk dcLk pmLk anLk cdLk ctLk), slLk⟩)
      (cLk : PySem.W.codeIn K cdLk "_law_back" = true) (kLk : PySem.W.keepIn K (.ref fLk) = true)
    (aLh : PySem.W.nsIn K mainGlobals "_law_there" = some (some (.ref fLh))) (lLh : K.lookup fLh = some ⟨ocLh, odLh, .func (PySem.W.fnOf "_law_there" "_law_there" (defArgs sLh) (defBody sLh) (defScope sLh) .none kVLh dcLh pmLh anLh cdLh ctLh), slLh⟩)
      (cLh : PySem.W.codeIn K cdLh "_law_there" = true) (kLh : PySem.W.keepIn K (.ref fLh) = true)
    (aLx : PySem.W.nsIn K mainGlobals "_law_vectors" = some (some (.ref fLx))) (lLx : K.lookup fLx = some ⟨ocLx, odLx, .func (PySem.W.fnOf "_law_vectors" "_law_vectors" (defArgs sLx) (defBody sLx) (defScope sLx) .none kVLx dcLx pmLx anLx cdLx ctLx), slLx⟩)
      (cLx : PySem.W.codeIn K cdLx "_law_vectors" = true) (kLx : PySem.W.keepIn K (.ref fLx) = true)
    (aLaw : PySem.W.nsIn K mainGlobals "law" = some (some (.ref fLaw))) (lLaw : K.lookup fLaw = some ⟨ocLaw, odLaw, .func (PySem.W.fnOf "law" "law" (defArgs sLaw) (defBody sLaw) (defScope sLaw) .none kVLaw dcLaw pmLaw anLaw cdLaw ctLaw), slLaw⟩)
      (cLaw : PySem.W.codeIn K cdLaw "law" = true) (kLaw : PySem.W.keepIn K (.ref fLaw) = true)
    (z0 : PySem.W.nsIn K mainGlobals "isinstance" = some none)
    (z1 : PySem.W.nsIn K mainGlobals "int" = some none)
    (z2 : PySem.W.nsIn K mainGlobals "bool" = some none)
    (z3 : PySem.W.nsIn K mainGlobals "str" = some none)
    (z4 : PySem.W.nsIn K mainGlobals "tuple" = some none)
    (z5 : PySem.W.nsIn K mainGlobals "list" = some none)
    (z6 : PySem.W.nsIn K mainGlobals "len" = some none)
    (z7 : PySem.W.nsIn K mainGlobals "abs" = some none)
    (z8 : PySem.W.nsIn K mainGlobals "min" = some none)
    (z9 : PySem.W.nsIn K mainGlobals "max" = some none)
    (z10 : PySem.W.nsIn K mainGlobals "range" = some none)
    (z11 : PySem.W.nsIn K mainGlobals "zip" = some none)
    (z12 : PySem.W.nsIn K mainGlobals "all" = some none)
    (z13 : PySem.W.nsIn K mainGlobals "any" = some none)
    (z14 : PySem.W.nsIn K mainGlobals "enumerate" = some none)
    (z15 : PySem.W.nsIn K mainGlobals "sum" = some none)
    (z16 : PySem.W.nsIn K mainGlobals "repr" = some none)
    (z17 : PySem.W.nsIn K mainGlobals "ValueError" = some none)
    {cNU : Addr} (aCNU : PySem.W.nsIn K mainGlobals "NoUnbeaten" = some (some (.ref cNU))) (iCNU : isCB K cNU = true)
    {cBe : Addr} (aCBe : PySem.W.nsIn K mainGlobals "Beaten" = some (some (.ref cBe))) (iCBe : isCB K cBe = true)
    {cBV : Addr} (aCBV : PySem.W.nsIn K mainGlobals "BadVector" = some (some (.ref cBV))) (iCBV : isCB K cBV = true)
    {cVE : Addr} (aCVE : PySem.W.nsIn K mainGlobals "VoteError" = some (some (.ref cVE))) (iCVE : isCB K cVE = true)
    {cNC : Addr} (aCNC : PySem.W.nsIn K mainGlobals "NoChange" = some (some (.ref cNC))) (iCNC : isCB K cNC = true)
    {nmNU qnNU : Str} {NNU fiNU : Addr} {bsNU bmNU subNU : List Value} {snNU : List Str} {abNU : Bool} {colNU : Option Bool} {ddNU odiNU aniNU : Option Addr} {kaNU kbNU kcNU kdNU keNU : Option Value} {sliNU : Array (Option Value)} {ociNU kViNU dciNU pmiNU cdiNU ctiNU : Value}
    (lXNU : K.lookup cNU = some (excClassObj nmNU qnNU cNU NNU bsNU bmNU true snNU subNU abNU colNU ddNU kaNU kbNU kcNU kdNU keNU "ValueError.__new__")) (vXNU : PySem.HandSPX.refsVE bmNU = true)
    (nXNU : PySem.W.findIn K (.ref cNU) "__init__" = some (some (.ref fiNU))) (lINU : K.lookup fiNU = some ⟨ociNU, odiNU, .func (PySem.W.fnOf "__init__" "NoUnbeaten.__init__" (defArgs siNU) (defBody siNU) (defScope siNU) .none kViNU dciNU pmiNU aniNU cdiNU ctiNU), sliNU⟩) (cINU : PySem.W.codeIn K cdiNU "NoUnbeaten.__init__" = true) (kINU : PySem.W.keepIn K (.ref fiNU) = true) (bXNU : xf2B K cNU fiNU "crowded" "reserves" = true)
    (xBe : PySem.W.excIn K cBe VEbm "ValueError.__new__" = true)
    (xBV : PySem.W.excIn K cBV VEbm "ValueError.__new__" = true)
    (x1 : PySem.W.exmOne K (.ref cBe) (.ref cVE) = some true)
    (x2 : PySem.W.kitOne K (.ref cBe) (.ref cBe) = some true)
    (x3 : PySem.W.kitOne K (.ref cBe) (.type "ValueError") = some true)
    (x4 : PySem.W.kitAny K (.ref cBe) [.ref cBV, .ref cNC, .ref cNU] = some false)
    (x5 : PySem.W.exmOne K (.ref cBV) (.ref cVE) = some true)
    (x6 : PySem.W.kitOne K (.ref cBV) (.ref cBV) = some true)
    (x7 : PySem.W.kitOne K (.ref cBV) (.type "ValueError") = some true)
    (x8 : PySem.W.kitAny K (.ref cBV) [.ref cBe, .ref cNC, .ref cNU] = some false)
    (x9 : PySem.W.exmOne K (.ref cNU) (.ref cNU) = some true)
    : ∃ fd : FuncData, (∀ (s : Shared) (v : Value), BindsTo s fd ⟨[v], []⟩ [("_law_script", v)]) ∧ ∀ base : Heap, K.In base → base.Ns mainGlobals mg → FnG l.prog w K mg base 11 fa fd ["_law_script"] (spLaw K) := by
  have e := hfa.symm.trans (PySem.W.mg_of X G aLaw)
  cases e
  have FWh := fun_mk (st := sWhole) lWh cWh kWh
  have bWh := FWh.binds (ps := ["value"]) fun _ _ _ _ _ _ us hl => match us, hl with | [_], _ => rfl
  have gWh := PySem.W.mg_of X G aWh
  have FWi := fun_mk (st := sWithin) lWi cWi kWi
  have bWi := FWi.binds (ps := ["value", "least", "most"]) fun _ _ _ _ _ _ us hl => match us, hl with | [_, _, _], _ => rfl
  have gWi := PySem.W.mg_of X G aWi
  have FTo := fun_mk (st := sTupOf) lTo cTo kTo
  have bTo := FTo.binds (ps := ["value", "least", "most"]) fun _ _ _ _ _ _ us hl => match us, hl with | [_, _, _], _ => rfl
  have gTo := PySem.W.mg_of X G aTo
  have FOp := fun_mk (st := sOpt) lOp cOp kOp
  have bOp := FOp.binds (ps := ["instance", "group", "option"]) fun _ _ _ _ _ _ us hl => match us, hl with | [_, _, _], _ => rfl
  have gOp := PySem.W.mg_of X G aOp
  have FDm := fun_mk (st := sDem) lDm cDm kDm
  have bDm := FDm.binds (ps := ["instance"]) fun _ _ _ _ _ _ us hl => match us, hl with | [_], _ => rfl
  have gDm := PySem.W.mg_of X G aDm
  have FEx := fun_mk (st := sExc) lEx cEx kEx
  have bEx := FEx.binds (ps := ["instance"]) fun _ _ _ _ _ _ us hl => match us, hl with | [_], _ => rfl
  have gEx := PySem.W.mg_of X G aEx
  have FFr := fun_mk (st := sFre) lFr cFr kFr
  have bFr := FFr.binds (ps := ["instance"]) fun _ _ _ _ _ _ us hl => match us, hl with | [_], _ => rfl
  have gFr := PySem.W.mg_of X G aFr
  have FCl := fun_mk (st := sCla) lCl cCl kCl
  have bCl := FCl.binds (ps := ["instance"]) fun _ _ _ _ _ _ us hl => match us, hl with | [_], _ => rfl
  have gCl := PySem.W.mg_of X G aCl
  have FCr := fun_mk (st := sCro) lCr cCr kCr
  have bCr := FCr.binds (ps := ["instance"]) fun _ _ _ _ _ _ us hl => match us, hl with | [_], _ => rfl
  have gCr := PySem.W.mg_of X G aCr
  have FRe := fun_mk (st := sRes) lRe cRe kRe
  have bRe := FRe.binds (ps := ["instance", "group"]) fun _ _ _ _ _ _ us hl => match us, hl with | [_, _], _ => rfl
  have gRe := PySem.W.mg_of X G aRe
  have FGr := fun_mk (st := sGr) lGr cGr kGr
  have bGr := FGr.binds (ps := ["instance"]) fun _ _ _ _ _ _ us hl => match us, hl with | [_], _ => rfl
  have gGr := PySem.W.mg_of X G aGr
  have FFc := fun_mk (st := sFc) lFc cFc kFc
  have bFc := FFc.binds (ps := ["instance"]) fun _ _ _ _ _ _ us hl => match us, hl with | [_], _ => rfl
  have gFc := PySem.W.mg_of X G aFc
  have FSs := fun_mk (st := sSs) lSs cSs kSs
  have bSs := FSs.binds (ps := ["routes", "post"]) fun _ _ _ _ _ _ us hl => match us, hl with | [_, _], _ => rfl
  have gSs := PySem.W.mg_of X G aSs
  have FAs := fun_mk (st := sAs) lAs cAs kAs
  have bAs := FAs.binds (ps := ["posts"]) fun _ _ _ _ _ _ us hl => match us, hl with | [_], _ => rfl
  have gAs := PySem.W.mg_of X G aAs
  have FSc := fun_mk (st := sSc) lSc cSc kSc
  have bSc := FSc.binds (ps := ["instance", "spare", "routes", "inside"]) fun _ _ _ _ _ _ us hl => match us, hl with | [_, _, _, _], _ => rfl
  have gSc := PySem.W.mg_of X G aSc
  have FOr := fun_mk (st := sOr) lOr cOr kOr
  have bOr := FOr.binds (ps := ["slacks", "signs", "count"]) fun _ _ _ _ _ _ us hl => match us, hl with | [_, _, _], _ => rfl
  have gOr := PySem.W.mg_of X G aOr
  have FSl := fun_mk (st := sSl) lSl cSl kSl
  have bSl := FSl.binds (ps := ["slacks", "signs", "count", "number"]) fun _ _ _ _ _ _ us hl => match us, hl with | [_, _, _, _], _ => rfl
  have gSl := PySem.W.mg_of X G aSl
  have FUb := fun_mk (st := sUb) lUb cUb kUb
  have bUb := FUb.binds (ps := ["instance", "assignment"]) fun _ _ _ _ _ _ us hl => match us, hl with | [_, _], _ => rfl
  have gUb := PySem.W.mg_of X G aUb
  have FOy := fun_mk (st := sOy) lOy cOy kOy
  have bOy := FOy.binds (ps := ["instance", "assignment"]) fun _ _ _ _ _ _ us hl => match us, hl with | [_, _], _ => rfl
  have gOy := PySem.W.mg_of X G aOy
  have FAc := fun_mk (st := sAc) lAc cAc kAc
  have bAc := FAc.binds (ps := ["instance", "assignment"]) fun _ _ _ _ _ _ us hl => match us, hl with | [_, _], _ => rfl
  have gAc := PySem.W.mg_of X G aAc
  have FIv := fun_mk (st := sIv) lIv cIv kIv
  have bIv := FIv.binds (ps := ["instance", "value"]) fun _ _ _ _ _ _ us hl => match us, hl with | [_, _], _ => rfl
  have gIv := PySem.W.mg_of X G aIv
  have FMn := fun_mk (st := sMn) lMn cMn kMn
  have bMn := FMn.binds (ps := ["instance", "numbers"]) fun _ _ _ _ _ _ us hl => match us, hl with | [_, _], _ => rfl
  have gMn := PySem.W.mg_of X G aMn
  have FVo := fun_mk (st := sVo) lVo cVo kVo
  have bVo := FVo.binds (ps := ["instance", "assignment"]) fun _ _ _ _ _ _ us hl => match us, hl with | [_, _], _ => rfl
  have gVo := PySem.W.mg_of X G aVo
  have FAo := fun_mk (st := sAo) lAo cAo kAo
  have bAo := FAo.binds (ps := ["instance", "vector"]) fun _ _ _ _ _ _ us hl => match us, hl with | [_, _], _ => rfl
  have gAo := PySem.W.mg_of X G aAo
  have FFv := fun_mk (st := sFv) lFv cFv kFv
  have bFv := FFv.binds (ps := ["instance"]) fun _ _ _ _ _ _ us hl => match us, hl with | [_], _ => rfl
  have gFv := PySem.W.mg_of X G aFv
  have FLsv := fun_mk (st := sLsv) lLsv cLsv kLsv
  have bLsv := FLsv.binds (ps := ["instance"]) fun _ _ _ _ _ _ us hl => match us, hl with | [_], _ => rfl
  have gLsv := PySem.W.mg_of X G aLsv
  have FEv := fun_mk (st := sEv) lEv cEv kEv
  have bEv := FEv.binds (ps := ["instance", "begun", "slacks", "signs", "end"]) fun _ _ _ _ _ _ us hl => match us, hl with | [_, _, _, _, _], _ => rfl
  have gEv := PySem.W.mg_of X G aEv
  have FSt := fun_mk (st := sSt) lSt cSt kSt
  have bSt := FSt.binds (ps := ["_law_script"]) fun _ _ _ _ _ _ us hl => match us, hl with | [_], _ => rfl
  have gSt := PySem.W.mg_of X G aSt
  have FDr := fun_mk (st := sDr) lDr cDr kDr
  have bDr := FDr.binds (ps := ["_law_deck", "_law_many"]) fun _ _ _ _ _ _ us hl => match us, hl with | [_, _], _ => rfl
  have gDr := PySem.W.mg_of X G aDr
  have FSm := fun_mk (st := sSame) lSm cSm kSm
  have bSm := FSm.binds (ps := ["_law_found", "_law_due"]) fun _ _ _ _ _ _ us hl => match us, hl with | [_, _], _ => rfl
  have gSm := PySem.W.mg_of X G aSm
  have FAm := fun_mk (st := sAm) lAm cAm kAm
  have bAm := FAm.binds (ps := ["_law_deck", "_law_top"]) fun _ _ _ _ _ _ us hl => match us, hl with | [_, _], _ => rfl
  have gAm := PySem.W.mg_of X G aAm
  have FIn := fun_mk (st := sIn) lIn cIn kIn
  have bIn := FIn.binds (ps := ["_law_deck", "_law_most_posts", "_law_most_groups", "_law_top"]) fun _ _ _ _ _ _ us hl => match us, hl with | [_, _, _, _], _ => rfl
  have gIn := PySem.W.mg_of X G aIn
  have FLd := fun_mk (st := sLd) lLd cLd kLd
  have bLd := FLd.binds (ps := ["_law_instance_here"]) fun _ _ _ _ _ _ us hl => match us, hl with | [_], _ => rfl
  have gLd := PySem.W.mg_of X G aLd
  have FLr := fun_mk (st := sLr) lLr cLr kLr
  have bLr := FLr.binds (ps := ["_law_instance_here", "_law_group"]) fun _ _ _ _ _ _ us hl => match us, hl with | [_, _], _ => rfl
  have gLr := PySem.W.mg_of X G aLr
  have FLw := fun_mk (st := sLw) lLw cLw kLw
  have bLw := FLw.binds (ps := ["_law_instance_here"]) fun _ _ _ _ _ _ us hl => match us, hl with | [_], _ => rfl
  have gLw := PySem.W.mg_of X G aLw
  have FLo := fun_mk (st := sLo) lLo cLo kLo
  have bLo := FLo.binds (ps := ["_law_instance_here"]) fun _ _ _ _ _ _ us hl => match us, hl with | [_], _ => rfl
  have gLo := PySem.W.mg_of X G aLo
  have FLv := fun_mk (st := sLv) lLv cLv kLv
  have bLv := FLv.binds (ps := ["_law_instance_here", "_law_value"]) fun _ _ _ _ _ _ us hl => match us, hl with | [_, _], _ => rfl
  have gLv := PySem.W.mg_of X G aLv
  have FLa := fun_mk (st := sLa) lLa cLa kLa
  have bLa := FLa.binds (ps := ["_law_instance_here"]) fun _ _ _ _ _ _ us hl => match us, hl with | [_], _ => rfl
  have gLa := PySem.W.mg_of X G aLa
  have FOd := fun_mk (st := sOd) lOd cOd kOd
  have bOd := FOd.binds (ps := ["_law_deck"]) fun _ _ _ _ _ _ us hl => match us, hl with | [_], _ => rfl
  have gOd := PySem.W.mg_of X G aOd
  have FLt := fun_mk (st := sLt) lLt cLt kLt
  have bLt := FLt.binds (ps := ["_law_instance_here", "_law_vector"]) fun _ _ _ _ _ _ us hl => match us, hl with | [_, _], _ => rfl
  have gLt := PySem.W.mg_of X G aLt
  have FLq := fun_mk (st := sLq) lLq cLq kLq
  have bLq := FLq.binds (ps := ["_law_deck", "_law_instance_here"]) fun _ _ _ _ _ _ us hl => match us, hl with | [_, _], _ => rfl
  have gLq := PySem.W.mg_of X G aLq
  have FLu := fun_mk (st := sLu) lLu cLu kLu
  have bLu := FLu.binds (ps := ["_law_instance_here", "_law_assignment_here"]) fun _ _ _ _ _ _ us hl => match us, hl with | [_, _], _ => rfl
  have gLu := PySem.W.mg_of X G aLu
  have FLk := fun_mk (st := sLk) lLk cLk kLk
  have bLk := FLk.binds (ps := ["_law_instance_here", "_law_assignment_here"]) fun _ _ _ _ _ _ us hl => match us, hl with | [_, _], _ => rfl
  have gLk := PySem.W.mg_of X G aLk
  have FLh := fun_mk (st := sLh) lLh cLh kLh
  have bLh := FLh.binds (ps := ["_law_instance_here", "_law_vector"]) fun _ _ _ _ _ _ us hl => match us, hl with | [_, _], _ => rfl
  have gLh := PySem.W.mg_of X G aLh
  have FLx := fun_mk (st := sLx) lLx cLx kLx
  have bLx := FLx.binds (ps := ["_law_instance_here", "_law_top"]) fun _ _ _ _ _ _ us hl => match us, hl with | [_, _], _ => rfl
  have gLx := PySem.W.mg_of X G aLx
  have FLaw := fun_mk (st := sLaw) lLaw cLaw kLaw
  have m_isinstance := PySem.W.mg_none_of X G z0
  have m_int := PySem.W.mg_none_of X G z1
  have m_bool := PySem.W.mg_none_of X G z2
  have m_str := PySem.W.mg_none_of X G z3
  have m_tuple := PySem.W.mg_none_of X G z4
  have m_list := PySem.W.mg_none_of X G z5
  have m_len := PySem.W.mg_none_of X G z6
  have m_abs := PySem.W.mg_none_of X G z7
  have m_min := PySem.W.mg_none_of X G z8
  have m_max := PySem.W.mg_none_of X G z9
  have m_range := PySem.W.mg_none_of X G z10
  have m_zip := PySem.W.mg_none_of X G z11
  have m_all := PySem.W.mg_none_of X G z12
  have m_any := PySem.W.mg_none_of X G z13
  have m_enumerate := PySem.W.mg_none_of X G z14
  have m_sum := PySem.W.mg_none_of X G z15
  have m_repr := PySem.W.mg_none_of X G z16
  have m_ValueError := PySem.W.mg_none_of X G z17
  have gNU := PySem.W.mg_of X G aCNU
  have INU := isCB_ok iCNU
  have gBe := PySem.W.mg_of X G aCBe
  have IBe := isCB_ok iCBe
  have gBV := PySem.W.mg_of X G aCBV
  have IBV := isCB_ok iCBV
  have gVE := PySem.W.mg_of X G aCVE
  have IVE := isCB_ok iCVE
  have gNC := PySem.W.mg_of X G aCNC
  have INC := isCB_ok iCNC
  have XNU := xf2B_ok bXNU ⟨_, _, _, _, _, _, _, _, _, _, _, _, _, _, _, lXNU, vXNU⟩
  have FiNU := fun_mk (st := siNU) lINU cINU kINU
  have biNU := FiNU.binds (ps := ["self", "crowded", "reserves"]) fun _ _ _ _ _ _ us hl => match us, hl with | [_, _, _], _ => rfl
  refine ⟨PySem.W.fnOf "law" "law" (defArgs sLaw) (defBody sLaw) (defScope sLaw) .none kVLaw dcLaw pmLaw anLaw cdLaw ctLaw, fun s v => .of_eq rfl, fun base _ _ => ?_⟩
  have GiNU := ok_iNU (P := l.prog) (w := w) (base := base) (mg := mg) FiNU XNU
  have GWh := ok_whole (P := l.prog) (w := w) (base := base) (mg := mg) (k := 0) FWh m_isinstance m_int m_bool
  have GWi := ok_within (P := l.prog) (w := w) (base := base) (mg := mg) (k := 0) FWi FWh bWh gWh GWh
  have GTo := ok_tupOf (P := l.prog) (w := w) (base := base) (mg := mg) (k := 0) FTo m_isinstance m_tuple m_len
  have GOp := ok_opt (P := l.prog) (w := w) (base := base) (mg := mg) (k := 0) FOp m_len
  have GDm := ok_dem (P := l.prog) (w := w) (base := base) (mg := mg) (k := 0) FDm m_len m_tuple
  have GEx := ok_exc (P := l.prog) (w := w) (base := base) (mg := mg) (k := 0) FEx FDm bDm gDm GDm m_tuple m_zip m_max
  have GFr := ok_fre (P := l.prog) (w := w) (base := base) (mg := mg) (k := 0) FFr FDm bDm gDm GDm m_tuple m_zip m_max
  have GCl := ok_cla (P := l.prog) (w := w) (base := base) (mg := mg) (k := 0) FCl FFr bFr gFr GFr m_tuple m_enumerate
  have GCr := ok_cro (P := l.prog) (w := w) (base := base) (mg := mg) (k := 0) FCr FEx bEx gEx GEx m_tuple m_enumerate
  have GRe := ok_res (P := l.prog) (w := w) (base := base) (mg := mg) (k := 0) FRe FCl bCl gCl GCl m_range m_len
  have GSm := ok_same (P := l.prog) (w := w) (base := base) (mg := mg) FSm bSm gSm m_tuple m_list m_isinstance m_len m_range m_str m_int m_bool 3
  have GGr := ok_Gr (P := l.prog) (w := w) (base := base) (mg := mg) FGr  FCr bCr gCr GCr FOp bOp gOp GOp FRe bRe gRe GRe   m_len m_range
  have GMn := ok_Mn (P := l.prog) (w := w) (base := base) (mg := mg) FMn  FGr bGr gGr GGr FEx bEx gEx GEx FFr bFr gFr GFr   m_len m_zip m_list m_all
  have GIv := ok_Iv (P := l.prog) (w := w) (base := base) (mg := mg) FIv  FTo bTo gTo GTo FWi bWi gWi GWi FMn bMn gMn GMn   m_len m_zip m_all
  have GSs := ok_Ss (P := l.prog) (w := w) (base := base) (mg := mg) FSs     
  have GAs := ok_As (P := l.prog) (w := w) (base := base) (mg := mg) FAs     
  have GSc := ok_Sc (P := l.prog) (w := w) (base := base) (mg := mg) FSc   gNU XNU GiNU biNU  m_int m_sum m_zip m_tuple
  have GFc := ok_Fc (P := l.prog) (w := w) (base := base) (mg := mg) FFc  FGr bGr gGr GGr FDm bDm gDm GDm FSs bSs gSs GSs FAs bAs gAs GAs FSc bSc gSc GSc   m_zip m_enumerate m_list
  have GOr := ok_Or (P := l.prog) (w := w) (base := base) (mg := mg) FOr     m_zip m_max m_min
  have GSl := ok_Sl (P := l.prog) (w := w) (base := base) (mg := mg) FSl     m_zip
  have GEv := ok_Ev (P := l.prog) (w := w) (base := base) (mg := mg) FEv  FOr bOr gOr GOr FSl bSl gSl GSl   m_list m_len m_range m_tuple
  have GFv := ok_Fv (P := l.prog) (w := w) (base := base) (mg := mg) FFv  FFc bFc gFc GFc FEv bEv gEv GEv   
  have GLsv := ok_Lsv (P := l.prog) (w := w) (base := base) (mg := mg) FLsv  FFc bFc gFc GFc FEv bEv gEv GEv   
  have GSt := ok_St (P := l.prog) (w := w) (base := base) (mg := mg) FSt     m_abs m_len m_int
  have GDr := ok_Dr (P := l.prog) (w := w) (base := base) (mg := mg) FDr     
  have GAm := ok_Am (P := l.prog) (w := w) (base := base) (mg := mg) FAm  FDr bDr gDr GDr   m_min
  have GIn := ok_In (P := l.prog) (w := w) (base := base) (mg := mg) FIn  FDr bDr gDr GDr FAm bAm gAm GAm   m_range m_list m_len m_min m_tuple
  have GLd := ok_Ld (P := l.prog) (w := w) (base := base) (mg := mg) FLd     m_len
  have GLr := ok_Lr (P := l.prog) (w := w) (base := base) (mg := mg) FLr  FLd bLd gLd GLd   m_len m_range
  have GLw := ok_Lw (P := l.prog) (w := w) (base := base) (mg := mg) FLw  FLd bLd gLd GLd FLr bLr gLr GLr   m_enumerate
  have GLo := ok_Lo (P := l.prog) (w := w) (base := base) (mg := mg) FLo  FLd bLd gLd GLd   m_zip m_max
  have GLv := ok_Lv (P := l.prog) (w := w) (base := base) (mg := mg) FLv  FLo bLo gLo GLo FLw bLw gLw GLw   m_tuple m_isinstance m_len m_zip m_bool m_int m_range
  have GLa := ok_La (P := l.prog) (w := w) (base := base) (mg := mg) FLa  FLw bLw gLw GLw FLv bLv gLv GLv   m_enumerate m_int m_range
  have GOd := ok_Od (P := l.prog) (w := w) (base := base) (mg := mg) FOd  FDr bDr gDr GDr   
  have GOy := ok_Oy (P := l.prog) (w := w) (base := base) (mg := mg) FOy  FRe bRe gRe GRe   m_enumerate m_any
  have GAc := ok_Ac (P := l.prog) (w := w) (base := base) (mg := mg) FAc  FDm bDm gDm GDm   m_len m_zip m_min
  have GUb := ok_Ub (P := l.prog) (w := w) (base := base) (mg := mg) FUb  FOy bOy gOy GOy FAc bAc gAc GAc   
  have GVo := ok_Vo (P := l.prog) (w := w) (base := base) (mg := mg) FVo  FUb bUb gUb GUb FGr bGr gGr GGr FRe bRe gRe GRe gBe IBe xBe  m_enumerate m_tuple
  have GAo := ok_Ao (P := l.prog) (w := w) (base := base) (mg := mg) FAo  FIv bIv gIv GIv FRe bRe gRe GRe gBV IBV xBV  m_enumerate m_len m_tuple
  have GLt := ok_Lt (P := l.prog) (w := w) (base := base) (mg := mg) FLt  FLr bLr gLr GLr   m_enumerate m_len m_tuple
  have GLq := ok_Lq (P := l.prog) (w := w) (base := base) (mg := mg) FLq  FDr bDr gDr GDr   m_list m_len m_range m_min m_tuple
  have GLu := ok_Lu (P := l.prog) (w := w) (base := base) (mg := mg) FLu  FLr bLr gLr GLr FLd bLd gLd GLd   m_len m_enumerate m_range m_zip m_min
  have GLk := ok_Lk (P := l.prog) (w := w) (base := base) (mg := mg) FLk FVo bVo gVo GVo gBe gVE gBV gNC gNU IBe x1 x2 x3 x4 m_isinstance m_int m_ValueError
  have GLh := ok_Lh (P := l.prog) (w := w) (base := base) (mg := mg) FLh FAo bAo gAo GAo gBV gVE gBe gNC gNU IBV x5 x6 x7 x8 m_isinstance m_int m_ValueError
  have GLx := ok_Lx (P := l.prog) (w := w) (base := base) (mg := mg) FLx FLa bLa gLa GLa FFv bFv gFv GFv FLsv bLsv gLsv GLsv gNU x9
  exact ok_Law (P := l.prog) (w := w) (base := base) FLaw  FSt bSt gSt GSt FDr bDr gDr GDr FIn bIn gIn GIn FLx bLx gLx GLx FLt bLt gLt GLt FLh bLh gLh GLh FSm bSm gSm GSm FLk bLk gLk GLk FOd bOd gOd GOd FLv bLv gLv GLv FLq bLq gLq GLq FLu bLu gLu GLu   m_range m_tuple m_list m_repr
end Pv

open PySem PySem.W PyProof.Rows
set_option maxRecDepth 100000 in
set_option maxHeartbeats 0 in
theorem PySem.Challenge.cw_postvote_k29_vectors_and_assignments_holds : PySem.Challenge.rw_postvote_k29_vectors_and_assignments.Holds := by
  w_on; o_law; k_head; (case hw => w_witness2)
  k_fill
  refine Pv.walkG (l := PySem.Challenge.rw_postvote_k29_vectors_and_assignments) (n := 63) (k := 11) (x := "_law_script") (sp := fun w => Pv.spLaw _) rfl (by decide) rfl ⟨rfl, by decide, by decide⟩ (fun w h Y => PySem.W.kIn_of Y) ?F (fun _ _ a ns hl _ _ hS => ⟨a, ns, rfl, hS, hl, fun _ => rfl⟩)
  case F =>
    intro w mg fa h KX G hmg
    refine' Pv.all_mk KX G hmg ?aWh ?lWh ?cWh ?kWh ?aWi ?lWi ?cWi ?kWi ?aTo ?lTo ?cTo ?kTo ?aOp ?lOp ?cOp ?kOp ?aDm ?lDm ?cDm ?kDm ?aEx ?lEx ?cEx ?kEx ?aFr ?lFr ?cFr ?kFr ?aCl ?lCl ?cCl ?kCl ?aCr ?lCr ?cCr ?kCr ?aRe ?lRe ?cRe ?kRe ?aGr ?lGr ?cGr ?kGr ?aFc ?lFc ?cFc ?kFc ?aSs ?lSs ?cSs ?kSs ?aAs ?lAs ?cAs ?kAs ?aSc ?lSc ?cSc ?kSc ?aOr ?lOr ?cOr ?kOr ?aSl ?lSl ?cSl ?kSl ?aUb ?lUb ?cUb ?kUb ?aOy ?lOy ?cOy ?kOy ?aAc ?lAc ?cAc ?kAc ?aIv ?lIv ?cIv ?kIv ?aMn ?lMn ?cMn ?kMn ?aVo ?lVo ?cVo ?kVo ?aAo ?lAo ?cAo ?kAo ?aFv ?lFv ?cFv ?kFv ?aLsv ?lLsv ?cLsv ?kLsv ?aEv ?lEv ?cEv ?kEv ?aSt ?lSt ?cSt ?kSt ?aDr ?lDr ?cDr ?kDr ?aSm ?lSm ?cSm ?kSm ?aAm ?lAm ?cAm ?kAm ?aIn ?lIn ?cIn ?kIn ?aLd ?lLd ?cLd ?kLd ?aLr ?lLr ?cLr ?kLr ?aLw ?lLw ?cLw ?kLw ?aLo ?lLo ?cLo ?kLo ?aLv ?lLv ?cLv ?kLv ?aLa ?lLa ?cLa ?kLa ?aOd ?lOd ?cOd ?kOd ?aLt ?lLt ?cLt ?kLt ?aLq ?lLq ?cLq ?kLq ?aLu ?lLu ?cLu ?kLu ?aLk ?lLk ?cLk ?kLk ?aLh ?lLh ?cLh ?kLh ?aLx ?lLx ?cLx ?kLx ?aLaw ?lLaw ?cLaw ?kLaw ?z0 ?z1 ?z2 ?z3 ?z4 ?z5 ?z6 ?z7 ?z8 ?z9 ?z10 ?z11 ?z12 ?z13 ?z14 ?z15 ?z16 ?z17 ?aCNU ?iCNU ?aCBe ?iCBe ?aCBV ?iCBV ?aCVE ?iCVE ?aCNC ?iCNC ?lXNU ?vXNU ?nXNU ?lINU ?cINU ?kINU ?bXNU ?xBe ?xBV ?x1 ?x2 ?x3 ?x4 ?x5 ?x6 ?x7 ?x8 ?x9
    (case aWh => k_is); (case lWh => k_is); (case cWh => k_is); (case kWh => k_is); (case aWi => k_is); (case lWi => k_is); (case cWi => k_is); (case kWi => k_is); (case aTo => k_is); (case lTo => k_is); (case cTo => k_is); (case kTo => k_is); (case aOp => k_is); (case lOp => k_is); (case cOp => k_is); (case kOp => k_is); (case aDm => k_is); (case lDm => k_is); (case cDm => k_is); (case kDm => k_is); (case aEx => k_is); (case lEx => k_is); (case cEx => k_is); (case kEx => k_is); (case aFr => k_is); (case lFr => k_is); (case cFr => k_is); (case kFr => k_is); (case aCl => k_is); (case lCl => k_is); (case cCl => k_is); (case kCl => k_is); (case aCr => k_is); (case lCr => k_is); (case cCr => k_is); (case kCr => k_is); (case aRe => k_is); (case lRe => k_is); (case cRe => k_is); (case kRe => k_is); (case aGr => k_is); (case lGr => k_is); (case cGr => k_is); (case kGr => k_is); (case aFc => k_is); (case lFc => k_is); (case cFc => k_is); (case kFc => k_is); (case aSs => k_is); (case lSs => k_is); (case cSs => k_is); (case kSs => k_is); (case aAs => k_is); (case lAs => k_is); (case cAs => k_is); (case kAs => k_is); (case aSc => k_is); (case lSc => k_is); (case cSc => k_is); (case kSc => k_is); (case aOr => k_is); (case lOr => k_is); (case cOr => k_is); (case kOr => k_is); (case aSl => k_is); (case lSl => k_is); (case cSl => k_is); (case kSl => k_is); (case aUb => k_is); (case lUb => k_is); (case cUb => k_is); (case kUb => k_is); (case aOy => k_is); (case lOy => k_is); (case cOy => k_is); (case kOy => k_is); (case aAc => k_is); (case lAc => k_is); (case cAc => k_is); (case kAc => k_is); (case aIv => k_is); (case lIv => k_is); (case cIv => k_is); (case kIv => k_is); (case aMn => k_is); (case lMn => k_is); (case cMn => k_is); (case kMn => k_is); (case aVo => k_is); (case lVo => k_is); (case cVo => k_is); (case kVo => k_is); (case aAo => k_is); (case lAo => k_is); (case cAo => k_is); (case kAo => k_is); (case aFv => k_is); (case lFv => k_is); (case cFv => k_is); (case kFv => k_is); (case aLsv => k_is); (case lLsv => k_is); (case cLsv => k_is); (case kLsv => k_is); (case aEv => k_is); (case lEv => k_is); (case cEv => k_is); (case kEv => k_is); (case aSt => k_is); (case lSt => k_is); (case cSt => k_is); (case kSt => k_is); (case aDr => k_is); (case lDr => k_is); (case cDr => k_is); (case kDr => k_is); (case aSm => k_is); (case lSm => k_is); (case cSm => k_is); (case kSm => k_is); (case aAm => k_is); (case lAm => k_is); (case cAm => k_is); (case kAm => k_is); (case aIn => k_is); (case lIn => k_is); (case cIn => k_is); (case kIn => k_is); (case aLd => k_is); (case lLd => k_is); (case cLd => k_is); (case kLd => k_is); (case aLr => k_is); (case lLr => k_is); (case cLr => k_is); (case kLr => k_is); (case aLw => k_is); (case lLw => k_is); (case cLw => k_is); (case kLw => k_is); (case aLo => k_is); (case lLo => k_is); (case cLo => k_is); (case kLo => k_is); (case aLv => k_is); (case lLv => k_is); (case cLv => k_is); (case kLv => k_is); (case aLa => k_is); (case lLa => k_is); (case cLa => k_is); (case kLa => k_is); (case aOd => k_is); (case lOd => k_is); (case cOd => k_is); (case kOd => k_is); (case aLt => k_is); (case lLt => k_is); (case cLt => k_is); (case kLt => k_is); (case aLq => k_is); (case lLq => k_is); (case cLq => k_is); (case kLq => k_is); (case aLu => k_is); (case lLu => k_is); (case cLu => k_is); (case kLu => k_is); (case aLk => k_is); (case lLk => k_is); (case cLk => k_is); (case kLk => k_is); (case aLh => k_is); (case lLh => k_is); (case cLh => k_is); (case kLh => k_is); (case aLx => k_is); (case lLx => k_is); (case cLx => k_is); (case kLx => k_is); (case aLaw => k_is); (case lLaw => k_is); (case cLaw => k_is); (case kLaw => k_is); (case z0 => k_is); (case z1 => k_is); (case z2 => k_is); (case z3 => k_is); (case z4 => k_is); (case z5 => k_is); (case z6 => k_is); (case z7 => k_is); (case z8 => k_is); (case z9 => k_is); (case z10 => k_is); (case z11 => k_is); (case z12 => k_is); (case z13 => k_is); (case z14 => k_is); (case z15 => k_is); (case z16 => k_is); (case z17 => k_is); (case aCNU => k_is); (case iCNU => kernel_rfl); (case aCBe => k_is); (case iCBe => kernel_rfl); (case aCBV => k_is); (case iCBV => kernel_rfl); (case aCVE => k_is); (case iCVE => kernel_rfl); (case aCNC => k_is); (case iCNC => kernel_rfl); (case lXNU => k_is); (case vXNU => kernel_rfl); (case nXNU => k_is); (case lINU => k_is); (case cINU => k_is); (case kINU => k_is); (case bXNU => kernel_rfl); (case xBe => kernel_rfl); (case xBV => kernel_rfl); (case x1 => kernel_rfl); (case x2 => kernel_rfl); (case x3 => kernel_rfl); (case x4 => kernel_rfl); (case x5 => kernel_rfl); (case x6 => kernel_rfl); (case x7 => kernel_rfl); (case x8 => kernel_rfl); (case x9 => kernel_rfl)
