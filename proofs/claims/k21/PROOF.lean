import PyProof.Rows.All
import Wide.All
import OpenK.AllK
import Wide.FinOn
import HandS.ForMost
import HandS.Conv
import HandS.Zip
import HandS.Walk
import HandS.IsInst
import HandS.Wide
import HandS.EndBits
import HandS.TupAny
import HandS.TupMul
import HandS.Style
import HandS.Deep
import HandS.NoneIn
import HandS.TupLe
import HandS.Dict
import KE.GoesMore
import KE.GoesZip
import HandS.Codes
import HandS.Exc
import HandS.ExcOwn
import HandS.WordsExc
import HandS.ExcField
import HandS.ExcInit
import KE.KExcIs
import PyProof.ExcBaseAll.LookupError
import PyProof.InstStoreFacts
import KE.KExcLine
import HandS.SetFor
import HandS.Strs
import PySem.Challenge.RW_postvote_k21_shortfalls
set_option Elab.async false
set_option linter.all false
set_option maxRecDepth 100000
namespace Pv
open PySem PySem.Spec PyProof.Rows L2

/-! heaps -/
theorem upNew {H : Hp} {p b : Addr} {o z : HO} (np : H p = none) (h : H b = some z) : upd H p o b = some z := by
  rw [upd_ne (ne_of_none h np)]; exact h
theorem sameNew {H : Hp} {p : Addr} {o : HO} (np : H p = none) : Same H (upd H p o) := fun _ _ e => upNew np e

/-! a def that is called where no repr is under way -/
structure FnG (P : Program) (w : World) (K : PySem.W.Frag) (mg : Str → Option Value) (base : Heap) (k : Nat) (f : Addr) (fd : FuncData) (ps : List Str) (sp : Sp) : Prop where
  cnt : ∀ vs H Q E, sp vs H Q E → vs.length = ps.length
  go : ∀ (A : Around) (outer : List Env) (s : Shared) (H : Hp) (args : Args) (us : List Value) (vs : List V) (Q : VK) (E : XK),
    A.guards = some [] → Room k A → Env0 P w K mg base A outer s H → BindsTo s fd args (ps.zip us) → Vals vs us →
    sp vs H Q E → codeAny (model P w) A (.call (.ref f) args) (CR CX0 outer P w H s Q E) s
section
variable {P : Program} {w : World} {K : PySem.W.Frag} {mg : Str → Option Value} {base : Heap}
theorem okG {x qual : Str} {st : Stmt} {f : Addr} {fd : FuncData} {N ps : List Str} {k : Nat} {sp : Sp}
    (F : Fun K x qual st f fd) (S : FnScope N ps (defScope st)) (cnt : ∀ vs H Q E, sp vs H Q E → vs.length = ps.length)
    (hbody : ∀ (cdv : Value) (A : Around) (outer : List Env) (s : Shared) (H : Hp) (vs : List V) (Q : VK) (E : XK),
      A.guards = some [] → Room k (A.deeper (envOfC qual (defScope st) s.heap.objs.size f cdv)) → sp vs H Q E →
      ∃ t, PSs (cxOf CX0 P w K mg base N qual (defScope st) f cdv A outer s H E).nox (defBody st) t ∧
        t { nx := fun _ H' => Q .non H', rt := Q } (start N vs) H) : FnG P w K mg base (k + 1) f fd ps sp := by
  obtain ⟨oc, od, kV, doc, pm, an, cdv, ct, osl, rfl, lk, hcd⟩ := F.ex
  refine ⟨cnt, ?_⟩
  intro A outer s H args us vs Q E hgd hr e0 hb r hsp
  have hl := cnt vs H Q E hsp
  have kk : ∀ b o, base.get? b = some o → s.heap.get? b = some o := fun b o e => (e0.bs b o e).1
  have KX : K.In s.heap := e0.mod.kin.keeps kk
  have lim : s.heap.NoLimit := e0.mod.nolimit.keeps kk
  refine codeAny_call_function hr.depth (KX _ _ lk) rfl S.co S.gen rfl (PySem.W.codeRec_of KX hcd)
    (hb _ _ _ _ (wpAny_newFunctionEnv_cells S.kind ?_ ?_))
  · rintro ⟨n, v⟩ hy
    rcases S.par n (List.of_mem_zip hy).1 with q | q
    · left; exact q
    · right; exact ⟨q, PySem.W.cellsFrom_some _ _ _ (Or.inl q)⟩
  · intro env he s1 x
    cases he
    refine ⟨lim.keeps x.toInCall.keep, ?_⟩
    apply codeAny_func
    obtain ⟨t, ht0, hq⟩ := hbody cdv A outer s H vs Q E hgd (hr.deeper _) hsp
    have ht := ht0.nox
    have I := inv_start (CX := CX0) (f := f) (qual := qual) (E := E) S hr.hd e0 hl r x
    refine wpAny_mono (ht.run [] s1 (start N vs) H _ I hq) ?_ (fun _ _ z => z)
    intro fl s' hs
    cases fl with
    | ret u => obtain ⟨v, σ', H', J, rv, q⟩ := hs; exact ⟨v, H', J.os, J.bare, J.base, J.hok, rv, q⟩
    | next => obtain ⟨σ', H', J, q⟩ := hs; exact ⟨V.non, H', J.os, J.bare, J.base, J.hok, rfl, q⟩
    | brk => obtain ⟨_, _, _, q⟩ := hs; exact q.elim
    | cont => obtain ⟨_, _, _, q⟩ := hs; exact q.elim
end
section
variable {X : Cx} {k : Nat} {f : Addr} {fd : FuncData} {ps : List Str} {sp : Sp} {x : Str} {p pos : Pos} {e : Expr} {es : List Expr} {t : TA}
theorem pe_callG (F : FnG X.prog X.w X.K X.mg X.base k f fd ps sp) (hgd : X.A.guards = some []) (hr : Room k X.A) (hg : Gl X x)
    (hm : X.mg x = some (.ref f)) (hk : PySem.W.keepIn X.K (.ref f) = true) (hb : Binds X.K fd ps []) (ha : PA X (e :: es) t)
    (hdb : (x == ("__debug__" : Str)) = false := by decide) (he : starEach (e :: es) X.env = (false, eval e X.env) :: starEach es X.env := by rfl)
    (hpl : (backTo pos (starEach es X.env)).any (·.1) = false := by rfl) :
    PE X (.Call (.Name x p) (e :: es) [] pos) (tCall sp [] E0 t) := by
  constructor
  intro pins s σ H Q I h
  refine wpAny_Call_Name_kw (ld_glob I hg hm ?_ hdb)
  refine PySem.W.callWith_K (h₀ := X.base) I.ok.mod.kin hk (thn (ha.run pos pins s σ H _ I h) ?_) he hpl
  rintro us s1 ⟨vs, H1, I1, r, q⟩
  refine ⟨I1.kIn, ?_⟩
  have r2 : Vals (vs ++ []) (us ++ []) := r.append .nil
  have hl : (us ++ []).length = ps.length := by rw [← r2.length]; exact F.cnt _ _ _ _ q
  refine wpAny_call (codeAny_mono (F.go X.A X.stack s1 H1 ⟨us, []⟩ (us ++ []) (vs ++ []) Q E0 hgd hr I1.env0 (hb s1 us I1.kIn hl) r2 q) ?_)
  intro rr s' hq
  match rr, hq with
  | .error e, hq => exact hq.elim
  | .ok (.ret u), hq => exact I1.after hq
  | .ok .next, hq => exact hq.elim
  | .ok .brk, hq => exact hq.elim
  | .ok .cont, hq => exact hq.elim
end
theorem lawG {P : Program} {w : World} {K : PySem.W.Frag} {mg mb : Str → Option Value} {k : Nat} {fa a : Addr} {fd : FuncData} {x : Str} {sp : Sp}
    {s₁ : Shared} {vs : List Value} {ns : List Int} (KX : K.In s₁.heap) (hns : s₁.heap.Ns mainGlobals mg) (hb : s₁.heap.Ns builtinsNs mb)
    (hbb : ∀ x : Str, x ≠ "__name__" → mb x = bootBuiltins x) (hlim : s₁.heap.NoLimit) (hg : s₁.gens = #[])
    (ha : s₁.heap.get? a = some { cls := .type "list", data := .seq vs.toArray }) (hi : IntsAre vs ns) (hl : ns.length ≤ sizeLine)
    (hr : Room k callerA) (F : ∀ base : Heap, K.In base → base.Ns mainGlobals mg → FnG P w K mg base k fa fd [x] sp)
    (hbind : ∀ (s : Shared) (u : Value), BindsTo s fd ⟨[u], []⟩ [(x, u)])
    (hsp : ∀ H : Hp, Only H → SqL K H a (ns.map V.int) → sp [.ref a] H (fun v _ => v = .bl true) E0) :
    codeAny (model P w) callerA (.call (.ref fa) ⟨[.ref a], []⟩)
      (fun r s' => r = .ok (.ret (.bool true)) ∧ OldK s₁.heap s'.heap ∧ s'.os = s₁.os ∧ AllBare s'.gens) s₁ := by
  have rv := vals_ints hi
  have lenV := hi.length
  have core : ∀ H : Hp, Only H → SqL K H a (ns.map V.int) → HOk P w H s₁.heap → (∀ b, H b ≠ none → b = a) → (H a ≠ none → K.lookup a = none) →
      codeAny (model P w) callerA (.call (.ref fa) ⟨[.ref a], []⟩)
        (fun r s' => r = .ok (.ret (.bool true)) ∧ OldK s₁.heap s'.heap ∧ s'.os = s₁.os ∧ AllBare s'.gens) s₁ := by
    intro H hO hS hok hA hK
    have noD : ∀ {b : Addr} {o : Obj} {es : Array DictEntry} {ep : Nat}, s₁.heap.get? b = some o → o.data = .dict es ep → H b = none := by
      intro b o es ep e d
      match q : H b with
      | none => rfl
      | some u =>
        obtain rfl : b = a := hA b (by rw [q]; simp)
        rw [ha] at e
        cases e
        exact absurd d (by intro z; cases z)
    have nsK : ∀ {b : Addr} {m : Str → Option Value}, s₁.heap.Ns b m → (hidT s₁.heap H).Ns b m := by
      rintro b m ⟨o, es, ep, e, d, r⟩
      exact ⟨o, es, ep, hidT_get e (noD e d), d, r⟩
    have hKb : K.In (hidT s₁.heap H) := by
      intro b o e
      refine hidT_get (KX b o e) ?_
      match q : H b with
      | none => rfl
      | some u =>
        obtain rfl : b = a := hA b (by rw [q]; simp)
        rw [hK (by rw [q]; simp)] at e
        cases e
    have hM : Mod K mg (hidT s₁.heap H) := by
      obtain ⟨mc, h1, h2⟩ := hlim
      exact ⟨hKb, nsK hns, ⟨mb, nsK hb, hbb⟩, ⟨mc, nsK h1, h2⟩⟩
    have e0 : Env0 P w K mg (hidT s₁.heap H) callerA [] s₁ H :=
      ⟨rfl, hM, fun b o e => of_hidT e, Nat.le_of_eq (hidT_size _ _), trivial, (fun b hb => by cases hb), hok, .of_eq hg⟩
    refine codeAny_mono ((F _ hKb (nsK hns)).go callerA [] s₁ H ⟨[.ref a], []⟩ [.ref a] [.ref a] _ _ rfl hr e0 (hbind s₁ (.ref a)) (.cons rfl .nil) (hsp H hO hS)) ?_
    intro r s' h
    match r, h with
    | .error e, h => exact h.elim
    | .ok .next, h => exact h.elim
    | .ok .brk, h => exact h.elim
    | .ok .cont, h => exact h.elim
    | .ok (.ret u), h =>
      obtain ⟨v, H', os, bare, un, hok', r', q⟩ := h
      cases (show v = V.bl true from q)
      cases (show u = Value.bool true from r')
      refine ⟨rfl, OldK.of_keep ?_, os, bare⟩
      intro b o e
      match q : H b with
      | none => exact un.keep b o e q (by intro z; cases z) (by intro z; cases z)
      | some u =>
        rcases hO b with z | ⟨ob, xs, z⟩
        · rw [q] at z; cases z
        · obtain ⟨e1, _⟩ := hok b _ z
          obtain ⟨e2, _⟩ := hok' b _ (un.frzs b ob _ z)
          rw [e] at e1
          cases e1
          exact e2
  match hk : K.lookup a with
  | some o =>
    have e := KX a o hk
    rw [ha] at e
    cases e
    refine core (fun _ => none) (fun _ => .inl rfl) (.inr ⟨_, vs.toArray, _, hk, rfl, rfl, rfl, ?_, by simpa using rv⟩) (fun b u z => by cases z) (fun b z => absurd rfl z) (fun z => absurd rfl z)
    rw [List.size_toArray, lenV]; exact hl
  | none =>
    let HA : Hp := fun b => if b = a then some (.frz { cls := .type "list", data := .seq vs.toArray } (.lst (ns.map V.int))) else none
    have at_a : HA a = some (.frz { cls := .type "list", data := .seq vs.toArray } (.lst (ns.map V.int))) := if_pos rfl
    have at_ne : ∀ b, b ≠ a → HA b = none := fun b h => if_neg h
    refine core HA ?_ (.inl (.inr ⟨_, at_a⟩)) ?_ ?_ (fun _ => hk)
    · intro b
      by_cases hb : b = a
      · subst hb; exact .inr ⟨_, _, at_a⟩
      · exact .inl (at_ne b hb)
    · intro b u z
      by_cases hb : b = a
      · subst hb
        rw [at_a] at z
        cases z
        exact ⟨ha, by rw [List.length_map]; exact hl, vs, _, rv, ha⟩
      · rw [at_ne b hb] at z; cases z
    · intro b z
      by_cases hb : b = a
      · exact hb
      · exact absurd (at_ne b hb) z
theorem walkG {l : PySem.W.OpenLaw} {n k : Nat} {q : Program} {loose : List Str} {XP : (Str → Option Value) → Heap → Prop} {YP : World → Heap → Prop}
    {d : DefRec} {K : Params → PySem.W.Frag} {sp : World → Sp} {x : Str} (hn : l.most = some n) (hn2 : n ≤ sizeLine) (hdf : d.params.defaults = [])
    (hr : Room k callerA) (hY : ∀ (w : World) (h : Heap), YP w h → (K w.params).In h)
    (F : ∀ (w : World) (mg : Str → Option Value) (fa : Addr) (h : Heap), (K w.params).In h → h.Ns mainGlobals mg → mg d.name = some (.ref fa) →
      ∃ fd : FuncData, (∀ (s : Shared) (u : Value), BindsTo s fd ⟨[u], []⟩ [(x, u)]) ∧
        ∀ base : Heap, (K w.params).In base → base.Ns mainGlobals mg → FnG l.prog w (K w.params) mg base k fa fd [x] (sp w))
    (hsp : ∀ (w : World) (H : Hp) (a : Addr) (ns : List Int), ns.length ≤ n → (∀ z ∈ ns, Builtin.Int.intBits z ≤ 1048576) → Only H →
      SqL (K w.params) H a (ns.map V.int) → sp w [.ref a] H (fun v _ => v = .bl true) E0) :
    PySem.W.WalkO q loose XP YP l.row.toRowW d [] (fun f vs => PySem.call f vs) := by
  refine Att.attach_callB hn hdf ?_
  intro w s₀ s₁ mg mb fa o pm cd doc a vs ns G Y ho hd hcd hmg hobj hints hlen hbits hg
  have KX := hY w _ Y
  obtain ⟨fd, hb, hF⟩ := F w mg fa _ KX G.T.g hmg
  exact lawG KX G.T.g G.T.b G.T.builtins G.T.nolimit hg hobj hints (Nat.le_trans hlen hn2) hr hF hb (fun H hO hS => hsp w H a ns hlen hbits hO hS)

/-! repr of data -/
theorem call_reprD {X : Cx} (hg : X.A.guards = some []) (hu : X.A.units + 70 < cLine) : CallR X (.builtin "repr")
    (fun xs H Q => ∃ a d, xs = [.ref a] ∧ Dp X.K H (.ref a) d ∧ d.showable = true ∧ d.hasDict = false ∧ d.depth ≤ 60 ∧
      d.shown.length ≤ sizeLine ∧ Q (.str d.shown) H) := by
  intro pins s σ H xs us Q I r h
  obtain ⟨a, d, rfl, hd, h1, h2, h3, h4, q⟩ := h
  obtain ⟨u, rfl, rfl⟩ := vals1 r
  obtain ⟨as, rd⟩ := Dp.reads I d _ _ hd rfl
  exact repr_of_reads' rd h1 (PyData.noDict_hsm h2) hg (by omega) (fun _ _ e => e) (fun h' u tk hk => ⟨.str _, H, I.kept hk, ⟨_, rfl⟩, q⟩) h4
end Pv

namespace Pv
open PySem PySem.Spec PyProof.Rows L2
theorem tup_mul0 (l : Addr) (items : Array Value) (n : Nat) (dd : Option Addr) (sl : Array (Option Value)) (u : Tok) (hi : items.isEmpty = false) :
    Meets (Builtin.«tuple.__mul__» ⟨[.ref l, .int ((0 : Nat) : Int) u], []⟩) (fun _ R s => s.heap.get? l = some { cls := .type "tuple", dict := dd, data := .seq items n, slots := sl } ∧
      R (.ok (.ret (Value.ref s.heap.objs.size))) { s with heap := s.heap.push { cls := Value.type "tuple", data := Data.seq #[] }, toks := s.toks }) :=
  .of_wp fun prog w A R s h => by
    obtain ⟨hp, g, d, tk, os⟩ := s
    obtain ⟨hl, h⟩ := h
    have f1 := AutoSeq1.idx_int
    wp_walk using AutoSeq1.wpAny_loadPart' hl
    repeat (first
      | (refine wpAny_ite_false (decide_eq_false (by simp [hi])) ?_; wp_walk using AutoSeq1.wpAny_loadPart' hl)
      | (refine wpAny_ite_true (decide_eq_true (by simp [hi])) ?_; wp_walk using AutoSeq1.wpAny_loadPart' hl))
    exact ⟨_, rfl, h⟩
theorem tup_mul1 (l : Addr) (items : Array Value) (n : Nat) (dd : Option Addr) (sl : Array (Option Value)) (u : Tok) :
    Meets (Builtin.«tuple.__mul__» ⟨[.ref l, .int ((1 : Nat) : Int) u], []⟩) (fun _ R s => s.heap.get? l = some { cls := .type "tuple", dict := dd, data := .seq items n, slots := sl } ∧
      R (.ok (.ret (Value.ref l))) s) :=
  .of_wp fun prog w A R s h => by
    obtain ⟨hp, g, d, tk, os⟩ := s
    obtain ⟨hl, h⟩ := h
    have f1 := AutoSeq1.idx_int
    wp_walk using AutoSeq1.wpAny_loadPart' hl
    repeat (first
      | (refine wpAny_ite_false (decide_eq_false (by simp)) ?_; wp_walk using AutoSeq1.wpAny_loadPart' hl)
      | (refine wpAny_ite_true (decide_eq_true (by simp)) ?_; wp_walk using AutoSeq1.wpAny_loadPart' hl))
    exact ⟨_, rfl, h⟩
def rRepA (K : PySem.W.Frag) : R2 := fun x y H Q => ∃ (l : Addr) (k : Nat) (xs : List V), x = .ref l ∧ y = .int k ∧ SqT K H l xs ∧ xs ≠ [] ∧ k ≤ 1000 ∧ xs.length ≤ 1000 ∧
    (k = 1 → Q (.ref l) H) ∧ (k ≠ 1 → ∀ p, H p = none → Q (.ref p) (upd H p (.tup (List.replicate k xs).flatten)))
abbrev RC := List V → Hp → VK → Prop
def rLenQ (K : PySem.W.Frag) : RC := fun xs H Q => ∃ (p : Addr) (ys : List V), xs = [.ref p] ∧ (SqL K H p ys ∨ SqT K H p ys) ∧ Q (.int ys.length) H
def rTupQ (K : PySem.W.Frag) : RC := fun xs H Q => ∃ (p : Addr) (ys : List V), xs = [.ref p] ∧ ((SqL K H p ys ∧ ∀ l, H l = none → Q (.ref l) (upd H l (.tup ys))) ∨ (SqT K H p ys ∧ Q (.ref p) H))
section
variable {X : Cx}
theorem call_lenQ : CallR X (.builtin "len") (rLenQ X.K) := call_len_seq
theorem call_tupQ : CallR X (.type "tuple") (rTupQ X.K) := call_tuple_of
/-- o[i] of a list, for o[i] += e -/
theorem get_list : PGet X (fun o i H Q => ∃ (p : Addr) (xs : List V) (j : Nat) (v : V), o = .ref p ∧ i = .int j ∧ SqL X.K H p xs ∧ xs[j]? = some v ∧ Q v H) := by
  intro pins s σ H o i ov iv Q I ro ri h
  obtain ⟨p, xs, j, v, rfl, rfl, hq, he, q⟩ := h
  cases ro
  obtain ⟨t, rfl⟩ := ri
  obtain ⟨its, r, pl, hz⟩ := I.list hq
  obtain ⟨u, eu, ru⟩ := r.get he
  have hj : j < its.length := (List.getElem?_eq_some_iff.mp eu).1
  have hl := r.length
  have hn := line63
  exact wpAny_getItem_list pl.isList (by omega) (by omega) (by simpa using eu) ⟨v, H, I, ru, q⟩
/-- tuple * int -/
theorem op_repA : OpR X (binaryOp .Mult) (rRepA X.K) := by
  intro pins s σ H x y v u Q I rx ry h
  obtain ⟨l, k, xs, rfl, rfl, hT, hne, h2, hz, q1, q2⟩ := h
  by_cases hk2 : 2 ≤ k
  · exact op_repT pins s σ H _ _ v u Q I rx ry ⟨l, k, xs, rfl, rfl, hT, hne, by omega, by omega, hz, by simpa using q2 (by omega)⟩
  cases rx
  obtain ⟨t, rfl⟩ := ry
  obtain ⟨its, r, ⟨⟨cls, dd, data, sl⟩, ho, hc, n, hd⟩, hs⟩ := I.tuple hT
  simp only at hc hd
  subst hc hd
  have hi : its.toArray.isEmpty = false := by
    cases its with
    | nil => exact absurd (List.eq_nil_of_length_eq_zero (by simpa using r.length)) hne
    | cons a b => rfl
  refine wpAny_binaryOp_repeat_ref (T := "tuple") (U := "int") (by decide) ⟨_, ho, rfl⟩ (fun s' => typeIs_int s' k t) noFill_tuple_mul F.fills_int_mul F.slot_int_rmul repeat_tuple F.slot_int_index.lookup
    (call_meets F.slot_int_rmul (typeIs_int s k t) F.entry_int_rmul (F.args_int_rmul_2 _ _) (int_rmul_tuple k t l its.toArray n dd sl)
      ⟨ho, rfl, ⟨_, ho, rfl⟩, ?_⟩)
  obtain hk | hk : k = 0 ∨ k = 1 := by omega
  · subst hk
    refine call_meets F.slot_tuple_mul (show s.TypeIs (.ref l) "tuple" from ⟨_, ho, rfl⟩) F.entry_tuple_mul (F.args_tuple_mul_2 _ _) (tup_mul0 l its.toArray n dd sl t hi) ⟨ho, ?_⟩
    refine ⟨.ref s.heap.objs.size, _, I.laid (t' := s.toks) (o := .tup []) (fun b ob q => Heap.get?_push_of_some _ q) (Nat.le_refl _) ?_, rfl, q2 (by decide) _ (I.hok.fresh (Nat.le_refl _))⟩
    exact ⟨Nat.zero_le _, [], .nil, IsTup.new _ _⟩
  · subst hk
    exact call_meets F.slot_tuple_mul (show s.TypeIs (.ref l) "tuple" from ⟨_, ho, rfl⟩) F.entry_tuple_mul (F.args_tuple_mul_2 _ _) (tup_mul1 l its.toArray n dd sl t) ⟨ho, ⟨.ref l, H, I, rfl, q1 rfl⟩⟩
/-- sum of a tuple of ints -/
theorem call_sumT (hc : X.calm = true) : CallR X (.builtin "sum") (fun xs H Q => ∃ (a : Addr) (ns : List Int), xs = [.ref a] ∧ SqT X.K H a (ns.map V.int) ∧ Q (.int ns.sum) H) := by
  intro pins s σ H xs us Q I r h
  obtain ⟨a, ns, rfl, hT, q⟩ := h
  obtain ⟨u, rfl, rfl⟩ := vals1 r
  obtain ⟨its, rv, ht, hz⟩ := I.tuple hT
  have hi : IntsAre its ns := rv.ints
  obtain ⟨ys, e⟩ := hi.allInts.items
  have hn : numsOf (intItems ys).toList = ns := by rw [← e]; exact hi.numsOf
  rw [nums_intItems] at hn
  rw [e] at ht
  have ht' : s.heap.IsTuple a (intItems ys) := ht
  have hlt : a < s.heap.objs.size := by obtain ⟨_, z, _⟩ := ht; exact Heap.lt_size z
  refine call_sum_walkG (wpAny_pyIter_tuple ht' ?_)
  refine ⟨_, _, _, _, _, _, numAt ys, rfl, Walks.tuple (A := X.A.in1) (I.ok.hd hc) _ a (Nat.ne_of_lt hlt) (intItems ys), ⟨⟨_, Heap.get?_push_size _ rfl, rfl, rfl⟩, ht'.push _⟩, ?_, (fun _ _ => intItems_at), ?_⟩
  · intro b hb
    show b < (s.heap.push _).objs.size
    rw [Heap.size_push]
    simp only [List.mem_cons, List.not_mem_nil, or_false] at hb
    rcases hb with rfl | rfl
    · exact Nat.lt_succ_self _
    · exact Nat.lt_succ_of_lt hlt
  · intro h' tk t' hk
    have eq : preSum (numAt ys) (intItems ys).size = ns.sum := by
      rw [preSum_eq, List.take_of_length_le (by simp [intItems]), hn]
    rw [eq]
    refine ⟨.int _, H, I.kept (t' := tk) (h' := h') ?_, ⟨_, rfl⟩, q⟩
    intro b o eb
    refine hk b o (fun hm => ?_) (Heap.get?_push_of_some _ eb)
    exact absurd (Heap.lt_size eb) ((List.mem_singleton.mp hm) ▸ Nat.lt_irrefl _)
end
theorem walk_zipT {K : PySem.W.Frag} {a b : Addr} {xs ys : List V} {n : Nat} (hn : n = min xs.length ys.length) :
    Walk (RZ.ItzT K a b) n (fun H => SqT K H a xs ∧ SqT K H b ys) (YPair (fun i => xs[i]?) (fun i => ys[i]?)) := by
  subst hn
  constructor
  · rintro i H hi ⟨q1, q2⟩
    have h1 : i < xs.length := by omega
    have h2 : i < ys.length := by omega
    exact ⟨xs, ys, xs[i], ys[i], q1, q2, by simp [h1], by simp [h2]⟩
  · rintro H ⟨q1, q2⟩
    exact ⟨xs, ys, q1, q2, by omega⟩
  · rintro i H v H' _ ⟨q1, q2⟩ ⟨T, x, z, h1, h2, h3, h4, h5⟩
    exact ⟨T, x, z, h1, h2, h3, h4 xs q1, h5 ys q2⟩
end Pv

namespace Pv
open PySem PySem.Spec PyProof.Rows L2

/-! tuples never change -/
def TupK (H H' : Hp) : Prop := ∀ b xs, (H b = some (.tup xs) → H' b = some (.tup xs)) ∧ ∀ u, H b = some (.frz u (.tup xs)) → H' b = some (.frz u (.tup xs))
theorem TupK.refl (H : Hp) : TupK H H := fun _ _ => ⟨id, fun _ => id⟩
theorem TupK.trans {H H1 H2 : Hp} (a : TupK H H1) (b : TupK H1 H2) : TupK H H2 := fun c xs => ⟨fun h => (b c xs).1 ((a c xs).1 h), fun u h => (b c xs).2 u ((a c xs).2 u h)⟩
theorem TupK.rd {H H' : Hp} (s : TupK H H') {b : Addr} {xs : List V} (h : Rd H b (.tup xs)) : Rd H' b (.tup xs) := by
  rcases h with h | ⟨o, h⟩
  · exact .inl ((s _ _).1 h)
  · exact .inr ⟨o, (s _ _).2 o h⟩
theorem TupK.of {H H' : Hp} (s : Same H H') : TupK H H' := fun _ _ => ⟨fun h => s _ _ h, fun _ h => s _ _ h⟩
theorem TupK.new {H : Hp} {p : Addr} {o : HO} (np : H p = none) : TupK H (upd H p o) := .of (sameNew np)
theorem TupK.put {H : Hp} {p : Addr} {o : HO} {ys : List V} (e : H p = some (.lst ys)) : TupK H (upd H p o) := by
  intro b xs
  refine ⟨fun h => ?_, fun u h => ?_⟩
  · rw [upd_ne (ne_of h e (by intro z; cases z))]; exact h
  · rw [upd_ne (ne_of h e (by intro z; cases z))]; exact h
theorem TupK.sq {K : PySem.W.Frag} {H H' : Hp} {a : Addr} {xs : List V} (s : TupK H H') (h : SqT K H a xs) : SqT K H' a xs := by
  rcases h with h | h
  · exact .inl (s.rd h)
  · exact .inr h

mutual
def tupOnly : PyData → Bool
  | .none | .bool _ | .int _ | .str _ => true
  | .tuple xs => tupOnlyAll xs
  | .list _ | .dict _ => false
def tupOnlyAll : List PyData → Bool
  | [] => true
  | x :: xs => tupOnly x && tupOnlyAll xs
end
mutual
theorem TupK.dp {K : PySem.W.Frag} {H H' : Hp} (s : TupK H H') : ∀ (d : PyData) (v : V), tupOnly d = true → Dp K H v d → Dp K H' v d
  | .none, v, _, h => by cases h; exact .non
  | .bool b, v, _, h => by cases h; exact .bl _
  | .int b, v, _, h => by cases h; exact .int _
  | .str b, v, _, h => by cases h; exact .str _
  | .tuple xs, v, t, h => by
    cases h with
    | tup hs ha => exact .tup (s.sq hs) (TupK.dpAll s xs _ (by simpa [tupOnly] using t) ha)
  | .list _, v, t, _ => by simp [tupOnly] at t
  | .dict _, v, t, _ => by simp [tupOnly] at t
theorem TupK.dpAll {K : PySem.W.Frag} {H H' : Hp} (s : TupK H H') : ∀ (ds : List PyData) (vs : List V), tupOnlyAll ds = true → DpAll K H vs ds → DpAll K H' vs ds
  | [], vs, _, h => by cases h; exact .nil
  | d :: ds, vs, t, h => by
    have t' : tupOnly d = true ∧ tupOnlyAll ds = true := by simpa [tupOnlyAll] using t
    cases h with
    | cons h1 h2 => exact .cons (TupK.dp s d _ t'.1 h1) (TupK.dpAll s ds _ t'.2 h2)
end
theorem tupOnlyAll_of {ds : List PyData} (h : ∀ d ∈ ds, tupOnly d = true) : tupOnlyAll ds = true := by
  induction ds with
  | nil => simp [tupOnlyAll]
  | cons d ds ih => simp [tupOnlyAll, h d (by simp), ih (fun e he => h e (by simp [he]))]

/-! data -/
abbrev Gp := List Int × Int
def dI (ns : List Int) : PyData := .tuple (ns.map .int)
def dGrp (g : Gp) : PyData := .tuple [dI g.1, .int g.2]
def dInst (cs : List Int) (gs : List Gp) : PyData := .tuple [dI cs, .tuple (gs.map dGrp)]
def dAsg (rows : List (List Int)) : PyData := .tuple (rows.map dI)
theorem to_ints (ns : List Int) : tupOnlyAll (ns.map PyData.int) = true := tupOnlyAll_of (by intro d hd; obtain ⟨n, _, rfl⟩ := List.mem_map.mp hd; simp [tupOnly])
theorem to_dI (ns : List Int) : tupOnly (dI ns) = true := by simp [dI, tupOnly, to_ints]
theorem to_dGrp (g : Gp) : tupOnly (dGrp g) = true := by simp [dGrp, tupOnly, tupOnlyAll, to_dI]
theorem to_grps (gs : List Gp) : tupOnlyAll (gs.map dGrp) = true := tupOnlyAll_of (by intro d hd; obtain ⟨n, _, rfl⟩ := List.mem_map.mp hd; exact to_dGrp n)
theorem to_rows (rs : List (List Int)) : tupOnlyAll (rs.map dI) = true := tupOnlyAll_of (by intro d hd; obtain ⟨n, _, rfl⟩ := List.mem_map.mp hd; exact to_dI n)
theorem to_dInst (cs : List Int) (gs : List Gp) : tupOnly (dInst cs gs) = true := by simp [dInst, tupOnly, tupOnlyAll, to_dI, to_grps]
theorem to_dAsg (rs : List (List Int)) : tupOnly (dAsg rs) = true := by simp [dAsg, tupOnly, to_rows]

section
variable {K : PySem.W.Frag} {H : Hp}
theorem DpAll.len : ∀ {vs : List V} {ds : List PyData}, DpAll K H vs ds → vs.length = ds.length
  | _, _, .nil => rfl
  | _, _, .cons _ t => by simp [DpAll.len t]
theorem DpAll.ints : ∀ {ns : List Int} {vs : List V}, DpAll K H vs (ns.map PyData.int) → vs = ns.map V.int
  | [], _, h => by cases h; rfl
  | n :: ns, _, h => by
    cases h with
    | cons h1 h2 => cases h1; rw [DpAll.ints h2]; rfl
theorem dp_ints : ∀ (ns : List Int), DpAll K H (ns.map V.int) (ns.map PyData.int)
  | [] => .nil
  | n :: ns => .cons (.int n) (dp_ints ns)
theorem DpAll.at : ∀ {vs : List V} {ds : List PyData} {i : Nat} {v : V}, DpAll K H vs ds → vs[i]? = some v → ∃ d, ds[i]? = some d ∧ Dp K H v d
  | _, _, _, _, .nil, e => by simp at e
  | _, _, 0, _, .cons h _, e => by simp at e; subst e; exact ⟨_, rfl, h⟩
  | _, _, i + 1, v, .cons _ t, e => by
    obtain ⟨d, h1, h2⟩ := DpAll.at (i := i) t (by simpa using e)
    exact ⟨d, by simpa using h1, h2⟩
theorem DpAll.snoc : ∀ {vs : List V} {ds : List PyData} {v : V} {d : PyData}, DpAll K H vs ds → Dp K H v d → DpAll K H (vs ++ [v]) (ds ++ [d])
  | _, _, _, _, .nil, h => .cons h .nil
  | _, _, _, _, .cons h t, h' => .cons h (DpAll.snoc t h')
theorem sq_dI {a : Addr} {ns : List Int} (h : Dp K H (.ref a) (dI ns)) : SqT K H a (ns.map V.int) := by
  cases h with
  | tup hs ha => rw [DpAll.ints ha] at hs; exact hs
theorem dI_sq {a : Addr} {ns : List Int} (h : SqT K H a (ns.map V.int)) : Dp K H (.ref a) (dI ns) := .tup h (dp_ints ns)
theorem dI_ref {v : V} {ns : List Int} (h : Dp K H v (dI ns)) : ∃ a, v = .ref a ∧ SqT K H a (ns.map V.int) := by
  cases h with
  | tup hs ha => rw [DpAll.ints ha] at hs; exact ⟨_, rfl, hs⟩
theorem grp_ref {v : V} {g : Gp} (h : Dp K H v (dGrp g)) : ∃ a p, v = .ref a ∧ SqT K H a [.ref p, .int g.2] ∧ SqT K H p (g.1.map V.int) := by
  cases h with
  | tup hs ha =>
    cases ha with
    | cons h1 h2 =>
      cases h2 with
      | cons h3 h4 =>
        cases h4
        cases h3
        obtain ⟨p, rfl, hp⟩ := dI_ref h1
        exact ⟨_, p, rfl, hs, hp⟩
theorem inst_open {v : V} {cs : List Int} {gs : List Gp} (h : Dp K H v (dInst cs gs)) :
    ∃ a c g xs, v = .ref a ∧ SqT K H a [.ref c, .ref g] ∧ SqT K H c (cs.map V.int) ∧ SqT K H g xs ∧ DpAll K H xs (gs.map dGrp) := by
  cases h with
  | tup hs ha =>
    cases ha with
    | cons h1 h2 =>
      cases h2 with
      | cons h3 h4 =>
        cases h4
        obtain ⟨c, rfl, hc⟩ := dI_ref h1
        cases h3 with
        | tup hg hx => exact ⟨_, c, _, _, rfl, hs, hc, hg, hx⟩
theorem asg_open {v : V} {rs : List (List Int)} (h : Dp K H v (dAsg rs)) : ∃ a xs, v = .ref a ∧ SqT K H a xs ∧ DpAll K H xs (rs.map dI) := by
  cases h with
  | tup hg hx => exact ⟨_, _, rfl, hg, hx⟩
end

/-! what repr wants of data -/
structure Fine (k B : Nat) (d : PyData) : Prop where
  sh : d.showable = true
  nd : d.hasDict = false
  dp : d.depth ≤ k
  ln : d.shown.length ≤ B
theorem Fine.mono {k k' B B' : Nat} {d : PyData} (h : Fine k B d) (hk : k ≤ k') (hB : B ≤ B') : Fine k' B' d := ⟨h.sh, h.nd, Nat.le_trans h.dp hk, Nat.le_trans h.ln hB⟩
theorem fine_int {i : Int} (h : i.natAbs < 10 ^ 20) : Fine 0 25 (.int i) := by
  refine ⟨?_, by simp [PyData.hasDict], by simp [PyData.depth], ?_⟩
  · simp only [PyData.showable, decide_eq_true_eq]
    have : i.natAbs.log2 < 100 := by
      by_cases h0 : i.natAbs = 0
      · rw [h0]; decide
      · exact (Nat.log2_lt h0).mpr (Nat.lt_trans h (by decide))
    omega
  · have e := int_text_length_le10 (k := 20) (by decide) h
    show (Str.ofString (toString i)).length ≤ 25
    rw [PySem.ofString_length]
    omega
theorem fine_all {k B : Nat} : ∀ {xs : List PyData}, (∀ x ∈ xs, Fine k B x) → PyData.showableAll xs = true ∧ PyData.hasDictAll xs = false ∧ PyData.depthAll xs ≤ k ∧ ((PyData.shownAll xs).map (·.length)).sum ≤ xs.length * B ∧ (PyData.shownAll xs).length = xs.length
  | [], _ => by simp [PyData.showableAll, PyData.hasDictAll, PyData.depthAll, PyData.shownAll]
  | x :: xs, h => by
    obtain ⟨h1, h2, h3, h4, h5⟩ := fine_all (xs := xs) (fun y hy => h y (by simp [hy]))
    have hx := h x (by simp)
    refine ⟨by simp [PyData.showableAll, hx.sh, h1], by simp [PyData.hasDictAll, hx.nd, h2], ?_, ?_, ?_⟩
    · simp only [PyData.depthAll]; have := hx.dp; omega
    · simp only [PyData.shownAll, List.map_cons, List.sum_cons, List.length_cons]; have := hx.ln; rw [Nat.succ_mul]; omega
    · simp [PyData.shownAll, h5]
theorem fine_tup {k B n : Nat} {xs : List PyData} (h : ∀ x ∈ xs, Fine k B x) (hn : xs.length ≤ n) : Fine (k + 1) (n * (B + 2) + 3) (.tuple xs) := by
  obtain ⟨h1, h2, h3, h4, h5⟩ := fine_all h
  refine ⟨by simp only [PyData.showable]; exact h1, by simp only [PyData.hasDict]; exact h2, by simp only [PyData.depth]; omega, ?_⟩
  simp only [PyData.shown]
  have e := tupleText_len_le (PyData.shownAll xs)
  rw [h5] at e
  have m : xs.length * (B + 2) ≤ n * (B + 2) := Nat.mul_le_mul_right _ hn
  rw [Nat.mul_add] at m
  omega
theorem fine_lst {k B n : Nat} {xs : List PyData} (h : ∀ x ∈ xs, Fine k B x) (hn : xs.length ≤ n) : Fine (k + 1) (n * (B + 2) + 3) (.list xs) := by
  obtain ⟨h1, h2, h3, h4, h5⟩ := fine_all h
  refine ⟨by simp only [PyData.showable]; exact h1, by simp only [PyData.hasDict]; exact h2, by simp only [PyData.depth]; omega, ?_⟩
  simp only [PyData.shown]
  have e := listText_len_le (PyData.shownAll xs)
  rw [h5] at e
  have m : xs.length * (B + 2) ≤ n * (B + 2) := Nat.mul_le_mul_right _ hn
  rw [Nat.mul_add] at m
  omega
theorem fine_dI {ns : List Int} {n : Nat} (h : ∀ i ∈ ns, i.natAbs < 10 ^ 20) (hn : ns.length ≤ n) : Fine 1 (n * 27 + 3) (dI ns) := by
  refine fine_tup (B := 25) ?_ (by simpa using hn)
  intro d hd
  obtain ⟨i, hi, rfl⟩ := List.mem_map.mp hd
  exact fine_int (h i hi)

/-! the drawing state of the law: a list of the cells, the rests and the turn -/
structure DS (H : Hp) (st c r : Addr) (t : Nat) : Prop where
  hs : H st = some (.lst [.ref c, .ref r, .int t])
  ex : ∃ cells rests : List Int, H c = some (.lst (cells.map V.int)) ∧ H r = some (.lst (rests.map V.int)) ∧ cells.length = rests.length ∧
    0 < cells.length ∧ cells.length ≤ 100 ∧ ∀ x ∈ rests, 0 ≤ x
  n1 : c ≠ r
  n2 : st ≠ c
  n3 : st ≠ r
def Ext (st r : Addr) (H H' : Hp) : Prop := ∀ b o, H b = some o → b ≠ st → b ≠ r → H' b = some o
section
variable {H H1 H2 : Hp} {st c r p : Addr} {t : Nat} {o : HO}
theorem Ext.trans (a : Ext st r H H1) (b : Ext st r H1 H2) : Ext st r H H2 := fun x o h n1 n2 => b x o (a x o h n1 n2) n1 n2
theorem Ext.of (s : Same H H1) : Ext st r H H1 := fun b o h _ _ => s b o h
theorem Ext.tup (d : DS H st c r t) (e : Ext st r H H1) : TupK H H1 := by
  obtain ⟨cells, rests, hc, hr, _⟩ := d.ex
  intro b xs
  refine ⟨fun h => ?_, fun u h => ?_⟩
  · exact e _ _ h (ne_of h d.hs (by intro z; cases z)) (ne_of h hr (by intro z; cases z))
  · exact e _ _ h (ne_of h d.hs (by intro z; cases z)) (ne_of h hr (by intro z; cases z))
theorem DS.same (d : DS H st c r t) (s : Same H H1) : DS H1 st c r t := by
  obtain ⟨cells, rests, hc, hr, q⟩ := d.ex
  exact ⟨s _ _ d.hs, ⟨cells, rests, s _ _ hc, s _ _ hr, q⟩, d.n1, d.n2, d.n3⟩
theorem DS.new (d : DS H st c r t) (np : H p = none) : DS (upd H p o) st c r t := d.same (sameNew np)
theorem DS.put (d : DS H st c r t) (h1 : p ≠ st) (h2 : p ≠ c) (h3 : p ≠ r) : DS (upd H p o) st c r t := by
  obtain ⟨cells, rests, hc, hr, q⟩ := d.ex
  exact ⟨by rw [upd_ne h1.symm]; exact d.hs, ⟨cells, rests, by rw [upd_ne h2.symm]; exact hc, by rw [upd_ne h3.symm]; exact hr, q⟩, d.n1, d.n2, d.n3⟩
/-- an address that was free while the state stood is none of its own -/
theorem DS.off (d : DS H st c r t) (np : H p = none) : p ≠ st ∧ p ≠ c ∧ p ≠ r := by
  obtain ⟨cells, rests, hc, hr, q⟩ := d.ex
  exact ⟨(ne_of_none d.hs np).symm, (ne_of_none hc np).symm, (ne_of_none hr np).symm⟩
end
end Pv

namespace Pv
open PySem PySem.Spec PyProof.Rows L2

/-! data of any kind: lists stand off the drawing state, dicts have leaves alone -/
def kD : Key → PyData
  | .inl i => .int i
  | .inr x => .str x
mutual
inductive Dq (K : PySem.W.Frag) (st r : Addr) (H : Hp) : V → PyData → Prop
  | non : Dq K st r H .non .none
  | bl (b : Bool) : Dq K st r H (.bl b) (.bool b)
  | int (i : Int) : Dq K st r H (.int i) (.int i)
  | str (x : Str) : Dq K st r H (.str x) (.str x)
  | lst {a : Addr} {xs : List V} {ds : List PyData} : H a = some (.lst xs) → a ≠ st → a ≠ r → a ≠ sysModules → DqAll K st r H xs ds → Dq K st r H (.ref a) (.list ds)
  | tup {a : Addr} {xs : List V} {ds : List PyData} : SqT K H a xs → DqAll K st r H xs ds → Dq K st r H (.ref a) (.tuple ds)
  | dct {a : Addr} {kvs : List (Key × Int)} : H a = some (.dK (kvs.map fun p => (p.1, V.int p.2))) → Dq K st r H (.ref a) (.dict (kvs.map fun p => (kD p.1, .int p.2)))
inductive DqAll (K : PySem.W.Frag) (st r : Addr) (H : Hp) : List V → List PyData → Prop
  | nil : DqAll K st r H [] []
  | cons {v : V} {vs : List V} {d : PyData} {ds : List PyData} : Dq K st r H v d → DqAll K st r H vs ds → DqAll K st r H (v :: vs) (d :: ds)
end
theorem keys_reads {P : Program} {w : World} {h : Heap} : ∀ {kvs : List (Key × Int)} {vs : List (Key × Value)} {es : List DictEntry}, KV (kvs.map fun p => (p.1, V.int p.2)) vs → Pairs (mixKind P w) es vs →
    ReadsAll h (es.map (·.key)) ((kvs.map fun p => (kD p.1, PyData.int p.2)).map (·.1)) [] ∧ ReadsAll h (es.map (·.val)) ((kvs.map fun p => (kD p.1, PyData.int p.2)).map (·.2)) []
  | [], _, _, rk, rp => by
    cases rk
    cases rp
    exact ⟨.nil, .nil⟩
  | p :: kvs, _, _, rk, rp => by
    obtain ⟨pk, pi⟩ := p
    rw [List.map_cons] at rk
    cases rk with
    | @cons _ q _ qs hq tq =>
      obtain ⟨qk, qv⟩ := q
      obtain ⟨h1, h2⟩ := hq
      simp only at h1 h2
      subst h1
      cases rp with
      | @cons e _ es _ he hv tp =>
        obtain ⟨r1, r2⟩ := keys_reads (h := h) tq tp
        simp only at he hv
        obtain ⟨t, ht⟩ := h2
        subst ht
        refine ⟨?_, ?_⟩
        · have k1 : Reads h e.key (kD pk) [] := by
            rcases keyIs_shape (show keyIs pk e.key = true from he) with ⟨i, t, e1, e2⟩ | ⟨x, t, e1, e2⟩
            · rw [e1, e2]; exact .int i t
            · rw [e1, e2]; exact .str x t
          exact ReadsAll.cons k1 r1
        · have k2 : Reads h e.val (.int pi) [] := by rw [hv]; exact .int pi t
          exact ReadsAll.cons k2 r2
section
variable {X : Cx} {pins : List (Addr × Obj)} {σ : L2.St} {H : Hp} {s : Shared} {st r : Addr}
mutual
theorem Dq.reads (I : Inv X pins σ H s) : ∀ (d : PyData) (v : V) (u : Value), Dq X.K st r H v d → RelV v u → ∃ as, Reads s.heap u d as ∧ sysModules ∉ as
  | .none, _, _, h, q => by
    cases h; cases q; exact ⟨[], .none, by simp⟩
  | .bool b, _, _, h, q => by
    cases h; cases q; exact ⟨[], .bool b, by simp⟩
  | .int i, _, _, h, q => by
    cases h; obtain ⟨t, e⟩ := q; subst e; exact ⟨[], .int i t, by simp⟩
  | .str x, _, _, h, q => by
    cases h; obtain ⟨t, e⟩ := q; subst e; exact ⟨[], .str x t, by simp⟩
  | .list ds, _, _, h, q => by
    cases h with
    | lst e _ _ n hd =>
      cases q
      obtain ⟨its, rel, ⟨o, m, ho, hc, _, hm⟩, _⟩ := I.list (SqL.of e)
      obtain ⟨as, h1, h2⟩ := DqAll.reads I ds _ its hd rel
      exact ⟨_, .list ho hc hm h1, by simp only [List.mem_cons, not_or]; exact ⟨fun z => n z.symm, h2⟩⟩
  | .tuple ds, _, _, h, q => by
    cases h with
    | tup e hd =>
      cases q
      obtain ⟨its, rel, ⟨o, ho, hc, m, hm⟩, _⟩ := I.tuple e
      obtain ⟨as, h1, h2⟩ := DqAll.reads I ds _ its hd rel
      exact ⟨_, .tuple ho hc hm h1, h2⟩
  | .dict _, _, _, h, q => by
    cases h with
    | dct e =>
      cases q
      obtain ⟨_, nb, vs, rk, o, es, ep, ho, hx, hm, _, rp, _⟩ := dk_of I.hok e
      obtain ⟨h1, h2⟩ := keys_reads (h := s.heap) rk rp
      exact ⟨_, .dict ho hx.1 hm h1 h2, by simp only [List.nil_append, List.append_nil, List.mem_singleton, List.mem_cons, List.not_mem_nil, or_false]; exact fun z => absurd z.symm (by simpa using nb)⟩
theorem DqAll.reads (I : Inv X pins σ H s) : ∀ (ds : List PyData) (vs : List V) (us : List Value), DqAll X.K st r H vs ds → Vals vs us → ∃ as, ReadsAll s.heap us ds as ∧ sysModules ∉ as
  | [], _, _, h, q => by
    cases h; cases q; exact ⟨[], .nil, by simp⟩
  | d :: ds, _, _, h, q => by
    cases h with
    | cons h1 h2 =>
      cases q with
      | cons q1 q2 =>
        obtain ⟨as, e1, n1⟩ := Dq.reads I d _ _ h1 q1
        obtain ⟨bs, e2, n2⟩ := DqAll.reads I ds _ _ h2 q2
        exact ⟨_, .cons e1 e2, by simp only [List.mem_append, not_or]; exact ⟨n1, n2⟩⟩
end
end
/-- repr of such data -/
theorem call_reprQ {X : Cx} (hg : X.A.guards = some []) (hu : X.A.units + 70 < cLine) : CallR X (.builtin "repr")
    (fun xs H Q => ∃ a d st r, xs = [.ref a] ∧ Dq X.K st r H (.ref a) d ∧ d.showable = true ∧ d.depth ≤ 60 ∧ d.shown.length ≤ sizeLine ∧ Q (.str d.shown) H) := by
  intro pins s σ H xs us Q I rv h
  obtain ⟨a, d, st, r, rfl, hd, h1, h3, h4, q⟩ := h
  obtain ⟨u, rfl, rfl⟩ := vals1 rv
  obtain ⟨as, rd, nm⟩ := Dq.reads I d _ _ hd rfl
  exact repr_of_reads' rd h1 (fun _ => nm) hg (by omega) (fun _ _ e => e) (fun h' u tk hk => ⟨.str _, H, I.kept hk, ⟨_, rfl⟩, q⟩) h4

/-! how it lasts -/
section
variable {K : PySem.W.Frag} {st r c : Addr} {H H' : Hp}
structure Lasts (st r : Addr) (H H' : Hp) : Prop where
  tk : TupK H H'
  ls : ∀ a xs, H a = some (.lst xs) → a ≠ st → a ≠ r → H' a = some (.lst xs)
  dk : ∀ a kvs, H a = some (.dK kvs) → H' a = some (.dK kvs)
theorem Lasts.refl : Lasts st r H H := ⟨.refl _, fun _ _ e _ _ => e, fun _ _ e => e⟩
theorem Lasts.of (s : Same H H') : Lasts st r H H' := ⟨.of s, fun a xs e _ _ => s _ _ e, fun a kvs e => s _ _ e⟩
theorem Lasts.ext {t : Nat} (d : DS H st c r t) (x : Ext st r H H') : Lasts st r H H' := by
  refine ⟨x.tup d, fun a xs e n1 n2 => x _ _ e n1 n2, fun a kvs e => ?_⟩
  obtain ⟨cells, rests, hc, hr, _⟩ := d.ex
  exact x _ _ e (ne_of e d.hs (by intro z; cases z)) (ne_of e hr (by intro z; cases z))
theorem Lasts.trans {H2 : Hp} (a : Lasts st r H H') (b : Lasts st r H' H2) : Lasts st r H H2 :=
  ⟨a.tk.trans b.tk, fun p xs e n1 n2 => b.ls _ _ (a.ls _ _ e n1 n2) n1 n2, fun p kvs e => b.dk _ _ (a.dk _ _ e)⟩
theorem Lasts.new {p : Addr} {o : HO} (np : H p = none) : Lasts st r H (upd H p o) := .of (sameNew np)
mutual
theorem Dq.lasts (l : Lasts st r H H') : ∀ {d : PyData} {v : V}, Dq K st r H v d → Dq K st r H' v d
  | .none, _, h => by cases h; exact .non
  | .bool _, _, h => by cases h; exact .bl _
  | .int _, _, h => by cases h; exact .int _
  | .str _, _, h => by cases h; exact .str _
  | .list _, _, h => by
    cases h with
    | lst e n1 n2 n3 hd => exact .lst (l.ls _ _ e n1 n2) n1 n2 n3 (DqAll.lasts l hd)
  | .tuple _, _, h => by
    cases h with
    | tup e hd => exact .tup (l.tk.sq e) (DqAll.lasts l hd)
  | .dict _, _, h => by
    cases h with
    | dct e => exact .dct (l.dk _ _ e)
theorem DqAll.lasts (l : Lasts st r H H') : ∀ {ds : List PyData} {vs : List V}, DqAll K st r H vs ds → DqAll K st r H' vs ds
  | [], _, h => by cases h; exact .nil
  | _ :: _, _, h => by
    cases h with
    | cons h1 h2 => exact .cons (Dq.lasts l h1) (DqAll.lasts l h2)
end
mutual
theorem Dq.of_dp : ∀ {d : PyData} {v : V}, tupOnly d = true → Dp K H v d → Dq K st r H v d
  | .none, _, _, h => by cases h; exact .non
  | .bool _, _, _, h => by cases h; exact .bl _
  | .int _, _, _, h => by cases h; exact .int _
  | .str _, _, _, h => by cases h; exact .str _
  | .list _, _, t, _ => by simp [tupOnly] at t
  | .tuple _, _, t, h => by
    cases h with
    | tup e hd => exact .tup e (DqAll.of_dp (by simpa [tupOnly] using t) hd)
  | .dict _, _, t, _ => by simp [tupOnly] at t
theorem DqAll.of_dp : ∀ {ds : List PyData} {vs : List V}, tupOnlyAll ds = true → DpAll K H vs ds → DqAll K st r H vs ds
  | [], _, _, h => by cases h; exact .nil
  | d :: ds, _, t, h => by
    have t' : tupOnly d = true ∧ tupOnlyAll ds = true := by simpa [tupOnlyAll] using t
    cases h with
    | cons h1 h2 => exact .cons (Dq.of_dp t'.1 h1) (DqAll.of_dp t'.2 h2)
theorem Dq.to_dp : ∀ {d : PyData} {v : V}, tupOnly d = true → Dq K st r H v d → Dp K H v d
  | .none, _, _, h => by cases h; exact .non
  | .bool _, _, _, h => by cases h; exact .bl _
  | .int _, _, _, h => by cases h; exact .int _
  | .str _, _, _, h => by cases h; exact .str _
  | .list _, _, t, _ => by simp [tupOnly] at t
  | .tuple _, _, t, h => by
    cases h with
    | tup e hd => exact .tup e (DqAll.to_dp (by simpa [tupOnly] using t) hd)
  | .dict _, _, t, _ => by simp [tupOnly] at t
theorem DqAll.to_dp : ∀ {ds : List PyData} {vs : List V}, tupOnlyAll ds = true → DqAll K st r H vs ds → DpAll K H vs ds
  | [], _, _, h => by cases h; exact .nil
  | d :: ds, _, t, h => by
    have t' : tupOnly d = true ∧ tupOnlyAll ds = true := by simpa [tupOnlyAll] using t
    cases h with
    | cons h1 h2 => exact .cons (Dq.to_dp t'.1 h1) (DqAll.to_dp t'.2 h2)
end
theorem DqAll.len : ∀ {vs : List V} {ds : List PyData}, DqAll K st r H vs ds → vs.length = ds.length
  | _, _, .nil => rfl
  | _, _, .cons _ t => by simp [DqAll.len t]
theorem DqAll.at : ∀ {vs : List V} {ds : List PyData} {i : Nat} {v : V}, DqAll K st r H vs ds → vs[i]? = some v → ∃ d, ds[i]? = some d ∧ Dq K st r H v d
  | _, _, _, _, .nil, e => by simp at e
  | _, _, 0, _, .cons h _, e => by simp at e; subst e; exact ⟨_, rfl, h⟩
  | _, _, i + 1, v, .cons _ t, e => by
    obtain ⟨d, h1, h2⟩ := DqAll.at (i := i) t (by simpa using e)
    exact ⟨d, by simpa using h1, h2⟩
theorem DqAll.app : ∀ {vs ws : List V} {ds es : List PyData}, DqAll K st r H vs ds → DqAll K st r H ws es → DqAll K st r H (vs ++ ws) (ds ++ es)
  | _, _, _, _, .nil, h => h
  | _, _, _, _, .cons h t, h' => .cons h (DqAll.app t h')
theorem DqAll.snoc {vs : List V} {ds : List PyData} {v : V} {d : PyData} (h : DqAll K st r H vs ds) (h' : Dq K st r H v d) : DqAll K st r H (vs ++ [v]) (ds ++ [d]) := h.app (.cons h' .nil)
theorem DqAll.rev : ∀ {vs : List V} {ds : List PyData}, DqAll K st r H vs ds → DqAll K st r H vs.reverse ds.reverse
  | _, _, .nil => .nil
  | _, _, .cons h t => by rw [List.reverse_cons, List.reverse_cons]; exact (DqAll.rev t).snoc h
theorem DqAll.take : ∀ {vs : List V} {ds : List PyData} (n : Nat), DqAll K st r H vs ds → DqAll K st r H (vs.take n) (ds.take n)
  | _, _, 0, _ => .nil
  | _, _, _ + 1, .nil => .nil
  | _, _, n + 1, .cons h t => .cons h (DqAll.take n t)
theorem DqAll.drop : ∀ {vs : List V} {ds : List PyData} (n : Nat), DqAll K st r H vs ds → DqAll K st r H (vs.drop n) (ds.drop n)
  | _, _, 0, h => h
  | _, _, _ + 1, .nil => .nil
  | _, _, n + 1, .cons _ t => DqAll.drop n t
/-- its type -/
def tyN : PyData → String
  | .none => "NoneType"
  | .bool _ => "bool"
  | .int _ => "int"
  | .str _ => "str"
  | .list _ => "list"
  | .tuple _ => "tuple"
  | .dict _ => "dict"
theorem Dq.ty {d : PyData} {v : V} (h : Dq K st r H v d) : TyX K H v (.type (tyN d)) := by
  cases h with
  | non => exact .base .non
  | bl b => exact .base (.bl b)
  | int i => exact .base (.int i)
  | str x => exact .base (.str x)
  | lst e => exact .base (.lst e)
  | tup e _ =>
    rcases e with (e | ⟨o, e⟩) | ⟨o, its, n, e, hc, _⟩
    · exact .base (.tup e)
    · exact .fTuple e
    · exact .kTuple e hc
  | dct e => exact .base (.dK e)
def isTup : PyData → Bool
  | .tuple _ => true
  | _ => false
def isInt : PyData → Bool
  | .int _ => true
  | .bool _ => true
  | _ => false
def isBool : PyData → Bool
  | .bool _ => true
  | _ => false
theorem kit_tup (d : PyData) : PySem.W.kitOne K (.type (tyN d)) (.type "tuple") = some (isTup d) := by
  have key : ∀ a b : String, ∀ x : Bool, kitB a b = some x → PySem.W.kitOne K (.type a) (.type b) = some x := fun _ _ _ h => kit_ty h
  cases d
  · exact key "NoneType" "tuple" false (by decide +kernel)
  · exact key "bool" "tuple" false (by decide +kernel)
  · exact key "int" "tuple" false (by decide +kernel)
  · exact key "str" "tuple" false (by decide +kernel)
  · exact key "list" "tuple" false (by decide +kernel)
  · exact key "tuple" "tuple" true (by decide +kernel)
  · exact key "dict" "tuple" false (by decide +kernel)
theorem kit_int (d : PyData) : PySem.W.kitOne K (.type (tyN d)) (.type "int") = some (isInt d) := by
  have key : ∀ a b : String, ∀ x : Bool, kitB a b = some x → PySem.W.kitOne K (.type a) (.type b) = some x := fun _ _ _ h => kit_ty h
  cases d
  · exact key "NoneType" "int" false (by decide +kernel)
  · exact key "bool" "int" true (by decide +kernel)
  · exact key "int" "int" true (by decide +kernel)
  · exact key "str" "int" false (by decide +kernel)
  · exact key "list" "int" false (by decide +kernel)
  · exact key "tuple" "int" false (by decide +kernel)
  · exact key "dict" "int" false (by decide +kernel)
theorem kit_bool (d : PyData) : PySem.W.kitOne K (.type (tyN d)) (.type "bool") = some (isBool d) := by
  have key : ∀ a b : String, ∀ x : Bool, kitB a b = some x → PySem.W.kitOne K (.type a) (.type b) = some x := fun _ _ _ h => kit_ty h
  cases d
  · exact key "NoneType" "bool" false (by decide +kernel)
  · exact key "bool" "bool" true (by decide +kernel)
  · exact key "int" "bool" false (by decide +kernel)
  · exact key "str" "bool" false (by decide +kernel)
  · exact key "list" "bool" false (by decide +kernel)
  · exact key "tuple" "bool" false (by decide +kernel)
  · exact key "dict" "bool" false (by decide +kernel)
end
/-! a new list, whose address is none of the machine's own -/
def tLstS (t : TA) : TE := fun σ H Q => t σ H fun xs H1 => xs.length ≤ sizeLine ∧ ∀ p, H1 p = none → p ≠ sysModules → Q (.ref p) (upd H1 p (.lst xs))
section
variable {X : Cx} {es : List Expr} {pos : Pos} {t : TA}
theorem pe_lstS (h : PA X es t) : PE X (.List es pos) (tLstS t) := by
  constructor
  intro pins s σ H Q I hq
  refine wpAny_List_spliced (thn (h.run pos pins s σ H _ I hq) ?_)
  rintro us s1 ⟨xs, H1, I1, rel, z, q⟩
  refine ⟨by rw [← rel.length]; exact z, .ref s1.heap.objs.size, _, ?_, rfl, q _ (I1.hok.fresh (Nat.le_refl _)) (Nat.ne_of_gt I1.big)⟩
  exact I1.laid (t' := s1.toks) (fun b u e => Heap.get?_push_of_some _ e) (Nat.le_refl _) ⟨z, us, 0, rel, Heap.get?_push_size _ rfl⟩
def rListS (K : PySem.W.Frag) : RC := fun xs H Q => ∃ (p : Addr) (ys : List V), xs = [.ref p] ∧ SqT K H p ys ∧ ∀ l, H l = none → l ≠ sysModules → Q (.ref l) (upd H l (.lst ys))
theorem call_listS : CallR X (.type "list") (rListS X.K) := by
  intro pins s σ H xs us Q I rel h
  obtain ⟨p, ys, e, hq, q⟩ := h
  subst e
  obtain ⟨u, e, rx⟩ := vals1 rel
  subst e
  cases rx
  obtain ⟨its, r', ⟨o, ho, hc, n, hd⟩, hz⟩ := I.tuple hq
  have hlen := r'.length
  refine call_list_seq p (.inr rfl) ho hc hd (fun h' c' kp e => ?_) (by simp only [List.size_toArray]; omega)
  exact ⟨.ref s.heap.objs.size, _, I.laid (t' := s.toks) (o := .lst ys) kp (Nat.le_refl _) ⟨hz, its, c', r', e⟩, rfl, q _ (I.hok.fresh (Nat.le_refl _)) (Nat.ne_of_gt I.big)⟩
end
end Pv

namespace Pv
open PySem PySem.Spec PyProof.Rows L2
/-! enumerate of a tuple -/
theorem enumT_new (l : Addr) (items : Array Value) (n : Nat) (dct : Option Addr) (sl : Array (Option Value)) :
    Meets (Builtin.«enumerate.__new__» ⟨[.type "enumerate", .ref l], []⟩) (fun _ R s =>
      s.heap.get? l = some { cls := .type "tuple", dict := dct, data := .seq items n, slots := sl } ∧
      R (.ok (.ret (.ref (s.heap.push { cls := .type "tuple_iterator", data := .fields #[.ref l, .int 0 0] }).objs.size)))
        { s with heap := Heap.push (s.heap.push { cls := .type "tuple_iterator", data := .fields #[.ref l, .int 0 0] }) { cls := .type "enumerate", data := .fields #[.none, .bool false, .ref s.heap.objs.size, rawInt 0, .none, .none] } }) :=
  .of_wp fun prog w A R s h => by
    obtain ⟨hp, g, d, tk, os⟩ := s
    obtain ⟨hl, h⟩ := h
    have hsub := sub_enumerate
    have hL : Heap.IsTuple (Shared.heap ⟨hp, g, d, tk, os⟩) l items := ⟨_, hl, rfl, n, rfl⟩
    wp_walk using AutoSeq1.wpAny_loadPart' hl
    refine wpAny_stack_any fun st => wpAny_pure ?_
    split
    · rename_i c _ _ _ _ _
      cases (c == Value.type "enumerate") <;>
        (wp_walk using AutoSeq1.wpAny_loadPart' hl, wpAny_pyIter_tuple hL; exact ⟨_, rfl, h⟩)
    · wp_walk using AutoSeq1.wpAny_loadPart' hl, wpAny_pyIter_tuple hL
      exact ⟨_, rfl, h⟩
theorem call_enumT {prog : Program} {w : World} {A : Around} {E : Value → Shared → Prop} {s : Shared} {l : Addr} {items : Array Value} {Q : Value → Shared → Prop} (hL : s.heap.IsTuple l items)
    (h : ∀ h', IsEnum h' (s.heap.objs.size + 1) s.heap.objs.size 0 .none → h'.IsTupleIter s.heap.objs.size l 0 →
      (∀ b o, s.heap.get? b = some o → h'.get? b = some o) → Q (.ref (s.heap.objs.size + 1)) { s with heap := h' }) :
    wpAny (model prog w) A (call (.type "enumerate") [.ref l]) Q E s := by
  obtain ⟨⟨c, dct, dt, sl⟩, hl, hc, n, hd⟩ := hL
  simp only at hc hd
  subst hc hd
  refine callType_new F.called_enumerate (by decide) (F.typeCall_enumerate_1 _) (F.newCall_enumerate_1 _) (fun obj => F.args_object_init_2 obj _) F.entry_enumerate_new (enumT_new l items n dct sl) ⟨hl, ?_⟩
  have hz : (s.heap.push { cls := .type "tuple_iterator", data := .fields #[.ref l, .int 0 0] }).objs.size = s.heap.objs.size + 1 := Heap.size_push ..
  show _ ∧ _
  rw [hz]
  have ge : IsEnum (Heap.push (s.heap.push { cls := .type "tuple_iterator", data := .fields #[.ref l, .int 0 0] }) { cls := .type "enumerate", data := .fields #[.none, .bool false, .ref s.heap.objs.size, rawInt 0, .none, .none] }) (s.heap.objs.size + 1) s.heap.objs.size 0 .none := by
    rw [← hz]
    exact Heap.get?_push_size _ rfl
  exact ⟨⟨_, ge, rfl⟩, h _ ge ⟨_, Heap.get?_push_of_some _ (Heap.get?_push_size _ rfl), rfl, rfl⟩ fun b o x => Heap.get?_push_of_some _ (Heap.get?_push_of_some _ x)⟩
def IteT (K : PySem.W.Frag) (a : Addr) : It :=
  ⟨fun i H => ∃ (xs : List V) (x : V), SqT K H a xs ∧ xs[i]? = some x,
   fun i H v H' => ∃ T x, v = .ref T ∧ H T = none ∧ H' = upd H T (.tup [.int (i : Nat), x]) ∧ ∀ xs, SqT K H a xs → xs[i]? = some x,
   fun i H => ∃ xs : List V, SqT K H a xs ∧ xs.length = i⟩
theorem tupLt {h : Heap} {a : Addr} {its : Array Value} (p : IsTup h a its) : a < h.objs.size := by obtain ⟨_, e, _⟩ := p; exact Heap.lt_size e
theorem turn_enumT {P : Program} {w : World} {K : PySem.W.Frag} {elts : List Expr} {kk : Nat} {tpos : Pos} (a e it : Addr) :
    Turn P w K (.Tuple elts kk tpos) (IteT K a) [e, it] e (fun i h => (∃ old, IsEnum h e it ((i : Nat) : Int) old) ∧ h.IsTupleIter it a i ∧ e ≠ it) where
  mem := by simp
  obj := by
    rintro i h ⟨⟨old, he⟩, ⟨o, ho, hc, hd⟩, _⟩ b hb
    simp only [List.mem_cons, List.not_mem_nil, or_false] at hb
    rcases hb with rfl | rfl
    · exact ⟨_, he, fun v q => nomatch q⟩
    · exact ⟨o, ho, fun v q => by rw [hd] at q; cases q⟩
  keep := by
    rintro i h h' ⟨⟨old, he⟩, hi, hne⟩ k
    exact ⟨⟨old, k e (by simp) _ he⟩, hi.at fun o q => k it (by simp) o q, hne⟩
  item := by
    intro X hP hw hK hc i pins s σ H E I hf st hg
    subst hP hw hK
    obtain ⟨⟨old, he⟩, hit, hne⟩ := st
    obtain ⟨xs, x, hq, hx⟩ := hg
    obtain ⟨its, rv, p, hz⟩ := I.tuple hq
    obtain ⟨u, hu, ru⟩ := rv.get hx
    have hel : e < s.heap.objs.size := Heap.lt_size he
    have hil : it < s.heap.objs.size := by obtain ⟨_, q, _⟩ := hit; exact Heap.lt_size q
    have nea : e ≠ a := by
      rintro rfl
      obtain ⟨o, ho, hcl, _⟩ := p
      rw [he] at ho
      cases ho
      injection hcl with hcl
      exact absurd hcl (by decide)
    have nia : a ≠ it := by
      rintro rfl
      obtain ⟨o, ho, hcl, _⟩ := p
      obtain ⟨o2, ho2, hcl2, _⟩ := hit
      rw [ho] at ho2
      cases ho2
      rw [hcl] at hcl2
      injection hcl2 with hcl2
      exact absurd hcl2 (by decide)
    have hlt : i < its.toArray.size := by have := (List.getElem?_eq_some_iff.mp hu).1; simpa using this
    refine wpAny_pyNext_enum_itemD (Draws.tuple (A := X.A.in1) (I.ok.hd hc) it a nia its.toArray) he ⟨hit, p⟩ hlt hne (by simp [hne, nea]) ?_
    intro u' h' tk hu' ho st' hT hsz hk
    have hu2 : its.toArray[i]? = some u' := hu'
    have : u' = u := by
      have h3 : its.toArray[i]? = some u := by simpa using hu
      rw [h3] at hu2
      exact (Option.some.inj hu2).symm
    subst this
    refine ⟨_, rfl, wpAny_letOwnedTupleGo_enum (s := { s with heap := h', toks := tk + 1 }) ho fun h'' he' sb => ?_⟩
    have hT2 : h''.get? s.heap.objs.size = some { cls := .type "tuple", data := .seq #[.int i tk, u'] } := (sb.2 _ (Nat.ne_of_gt hel)).trans hT
    have new : ObjOk X.prog X.w (upd H s.heap.objs.size (.tup [.int (i : Nat), x])) h'' s.heap.objs.size (.tup [.int (i : Nat), x]) :=
      ⟨by show 2 ≤ sizeLine; decide, [.int i tk, u'], .cons ⟨_, rfl⟩ (.cons ru .nil), ⟨_, hT2, rfl, _, rfl⟩⟩
    have kk : ∀ b ob, b ∉ [e, it] → s.heap.get? b = some ob → h''.get? b = some ob := by
      intro b ob hb q
      have h1 : b ≠ e := fun z => hb (by simp [z])
      have h2 : b ≠ it := fun z => hb (by simp [z])
      exact (sb.2 b h1).trans (hk b ob h1 h2 q)
    have I1 : Inv X pins σ (upd H s.heap.objs.size (.tup [.int (i : Nat), x])) { s with heap := h'', toks := tk + 1 } :=
      I.turnedNew (ch := [e, it]) kk hf (Nat.le_refl _) new
    refine ⟨.ref s.heap.objs.size, _, I1, rfl, ⟨_, x, rfl, I.hok.fresh (Nat.le_refl _), rfl, fun ys hy => by rw [I.tuple_inj hy hq]; exact hx⟩, ⟨⟨u', ?_⟩, st'.1.at fun o q => (sb.2 it (Ne.symm hne)).trans q, hne⟩, fun b hb => ?_⟩
    · rw [show ((i + 1 : Nat) : Int) = (i : Int) + 1 by omega]; exact he'
    · have hb' : b < s.heap.objs.size := by
        simp only [List.mem_cons, List.not_mem_nil, or_false] at hb
        rcases hb with rfl | rfl <;> assumption
      rw [upd_ne (Nat.ne_of_lt hb')]
      exact (hf b hb).1
  done := by
    intro X hP hw hK hc i pins s σ H E I hf st hg
    subst hP hw hK
    obtain ⟨⟨old, he⟩, hit, hne⟩ := st
    obtain ⟨xs, hq, hx⟩ := hg
    obtain ⟨its, rv, p, hz⟩ := I.tuple hq
    obtain ⟨f0, f1, f2, f3, f4, f5⟩ := hf it (by simp)
    have hl := rv.length
    have nia : a ≠ it := by
      rintro rfl
      obtain ⟨o, ho, hcl, _⟩ := p
      obtain ⟨o2, ho2, hcl2, _⟩ := hit
      rw [ho] at ho2
      cases ho2
      rw [hcl] at hcl2
      injection hcl2 with hcl2
      exact absurd hcl2 (by decide)
    have hi : i = its.toArray.size := by rw [List.size_toArray]; omega
    refine wpAny_pyNext_enum_endD (Draws.tuple (A := X.A.in1) (I.ok.hd hc) it a nia its.toArray) he (by rw [← hi]; exact ⟨hit, p⟩) fun h' eb => ⟨rfl, I.turned (t' := s.toks) (fun b o hb q => eb b o hb q) f0 f1 f3 f4 f5⟩
  self := by
    rintro A i s Q E ⟨⟨_, he⟩, _⟩ h
    exact wpAny_pyIter_enum he h
def iEnumT (K : PySem.W.Frag) (ta : TA) : TI := fun σ H R => ta σ H fun vs H1 => ∃ a xs, vs = [.ref a] ∧ SqT K H1 a xs ∧ R (IteT K a) H1
theorem pi_enumT {X : Cx} {e : Expr} {ta : TA} {p pos tpos : Pos} {elts : List Expr} {kk : Nat} (hg : Gl X "enumerate") (hm : X.mg "enumerate" = none) (ha : PA X [e] ta)
    (hs : starEach [e] X.env = [(false, eval e X.env)] := by rfl) : PI X (.Tuple elts kk tpos) (.Call (.Name "enumerate" p) [e] [] pos) (iEnumT X.K ta) := by
  constructor
  intro pins s σ H R I h
  refine Call_ (ld_blt I hg hm boot_enumerate (PyProof.Rows.callWith_type1 (thn (ha.run pos pins s σ H _ I h) ?_) hs rfl))
  rintro us s1 ⟨vs, H1, I1, r1, a, xs, rfl, hq, q⟩
  obtain ⟨u, rfl, rfl⟩ := vals1 r1
  obtain ⟨its, rv, p', hz⟩ := I1.tuple hq
  refine call_enumT (show s1.heap.IsTuple a its.toArray from p') fun h' he hit hk => wpAny_pyIter_enum he ?_
  have I2 : Inv X pins σ H1 { s1 with heap := h' } := I1.kept (t' := s1.toks) hk
  refine ⟨s1.heap.objs.size + 1, [s1.heap.objs.size + 1, s1.heap.objs.size], _, _, H1, rfl, I2, turn_enumT a (s1.heap.objs.size + 1) s1.heap.objs.size, ⟨⟨.none, he⟩, hit, Nat.succ_ne_self _⟩, ?_, q⟩
  intro b hb
  have hle : s1.heap.objs.size ≤ b := by
    simp only [List.mem_cons, List.not_mem_nil, or_false] at hb
    rcases hb with rfl | rfl <;> omega
  exact I1.fpOk hle (I1.hok.fresh hle)
theorem walk_enumT {K : PySem.W.Frag} {a : Addr} {xs : List V} : Walk (IteT K a) xs.length (fun H => SqT K H a xs) (YPair (fun i => some (.int (i : Nat))) (fun i => xs[i]?)) := by
  constructor
  · intro i H hi q
    exact ⟨xs, xs[i], q, by simp [hi]⟩
  · intro H q
    exact ⟨xs, q, rfl⟩
  · rintro i H v H' _ q ⟨T, x, h1, h2, h3, h4⟩
    exact ⟨T, _, x, h1, h2, h3, rfl, h4 xs q⟩
/-! zip of a list and a tuple -/
abbrev zm1 (h : Heap) (l1 : Addr) : Heap := h.push { cls := .type "list_iterator", data := .fields #[.ref l1, .int 0 0] }
abbrev zm2 (h : Heap) (l1 l2 : Addr) : Heap := (zm1 h l1).push { cls := .type "tuple_iterator", data := .fields #[.ref l2, .int 0 0] }
abbrev zm3 (h : Heap) (l1 l2 : Addr) : Heap := (zm2 h l1 l2).push { cls := .type "tuple", data := .seq #[.ref h.objs.size, .ref (zm1 h l1).objs.size] }
abbrev zm4 (h : Heap) (l1 l2 : Addr) : Heap := (zm3 h l1 l2).push { cls := .type "tuple", data := .seq #[.none, .none] }
abbrev zm5 (h : Heap) (l1 l2 : Addr) : Heap := (zm4 h l1 l2).push { cls := .type "zip", data := .fields #[.none, .bool false, .bool false, .ref (zm2 h l1 l2).objs.size, .ref (zm3 h l1 l2).objs.size] }
theorem zipM_new (l1 l2 : Addr) (xs ys : Array Value) :
    Meets (Builtin.«zip.__new__» ⟨[.type "zip", .ref l1, .ref l2], []⟩) (fun _ R s => s.heap.IsList l1 xs ∧ s.heap.IsTuple l2 ys ∧
      R (.ok (.ret (.ref (zm4 s.heap l1 l2).objs.size))) { s with heap := zm5 s.heap l1 l2 }) :=
  .of_wp fun prog w A R s h => by
    obtain ⟨hp, g, d, tk, os⟩ := s
    obtain ⟨hl1, hl2, h⟩ := h
    have hsub := sub_zip
    have hL1 : Heap.IsList (Shared.heap ⟨hp, g, d, tk, os⟩) l1 xs := hl1
    have hL2 : Heap.IsTuple (Shared.heap ⟨zm1 hp l1, g, d, tk, os⟩) l2 ys := Heap.IsTuple.push hl2 _
    wp_walk using wpAny_pyIter_list hL1, wpAny_pyIter_tuple hL2
    exact ⟨_, rfl, h⟩
theorem call_zipM {prog : Program} {w : World} {A : Around} {E : Value → Shared → Prop} {s : Shared} {l1 l2 : Addr} {xs ys : Array Value} {Q : Value → Shared → Prop} (hl1 : s.heap.IsList l1 xs) (hl2 : s.heap.IsTuple l2 ys)
    (h : ∀ h', IsZip h' (s.heap.objs.size + 4) (s.heap.objs.size + 2) (s.heap.objs.size + 3) .none → IsPair h' (s.heap.objs.size + 2) (.ref s.heap.objs.size) (.ref (s.heap.objs.size + 1)) →
      IsPair h' (s.heap.objs.size + 3) .none .none → h'.IsListIter s.heap.objs.size l1 0 → h'.IsTupleIter (s.heap.objs.size + 1) l2 0 →
      (∀ c o, s.heap.get? c = some o → h'.get? c = some o) → Q (.ref (s.heap.objs.size + 4)) { s with heap := h' }) :
    wpAny (model prog w) A (call (.type "zip") [.ref l1, .ref l2]) Q E s := by
  refine callType_new F.called_zip (by decide) (F.typeCall_zip_2 _ _) (F.newCall_zip_2 _ _) (fun obj => F.args_object_init_3 obj _ _) F.entry_zip_new (zipM_new l1 l2 xs ys) ⟨hl1, hl2, ?_⟩
  have z1 : (zm1 s.heap l1).objs.size = s.heap.objs.size + 1 := Heap.size_push ..
  have z2 : (zm2 s.heap l1 l2).objs.size = s.heap.objs.size + 2 := by rw [Heap.size_push, z1]
  have z3 : (zm3 s.heap l1 l2).objs.size = s.heap.objs.size + 3 := by rw [Heap.size_push, z2]
  have z4 : (zm4 s.heap l1 l2).objs.size = s.heap.objs.size + 4 := by rw [Heap.size_push, z3]
  have g5 : (zm5 s.heap l1 l2).get? (zm4 s.heap l1 l2).objs.size = some _ := Heap.get?_push_size _ rfl
  have g4 : (zm5 s.heap l1 l2).get? (zm3 s.heap l1 l2).objs.size = some _ := Heap.get?_push_of_some _ (Heap.get?_push_size _ rfl)
  have g3 : (zm5 s.heap l1 l2).get? (zm2 s.heap l1 l2).objs.size = some _ := Heap.get?_push_of_some _ (Heap.get?_push_of_some _ (Heap.get?_push_size _ rfl))
  have g2 : (zm5 s.heap l1 l2).get? (zm1 s.heap l1).objs.size = some _ := Heap.get?_push_of_some _ (Heap.get?_push_of_some _ (Heap.get?_push_of_some _ (Heap.get?_push_size _ rfl)))
  have g1 : (zm5 s.heap l1 l2).get? s.heap.objs.size = some _ := Heap.get?_push_of_some _ (Heap.get?_push_of_some _ (Heap.get?_push_of_some _ (Heap.get?_push_of_some _ (Heap.get?_push_size _ rfl))))
  show _ ∧ _
  rw [z2, z3, z4] at g5
  rw [z1, z2] at g3
  rw [z3] at g4
  rw [z1] at g2
  rw [z4]
  refine ⟨⟨_, g5, rfl⟩, h _ g5 g3 g4 ⟨_, g1, rfl, rfl⟩ ⟨_, g2, rfl, rfl⟩ ?_⟩
  intro c o x
  exact Heap.get?_push_of_some _ (Heap.get?_push_of_some _ (Heap.get?_push_of_some _ (Heap.get?_push_of_some _ (Heap.get?_push_of_some _ x))))
def ItzM (K : PySem.W.Frag) (a b : Addr) : It :=
  ⟨fun i H => ∃ (xs ys : List V) (x y : V), SqL K H a xs ∧ SqT K H b ys ∧ xs[i]? = some x ∧ ys[i]? = some y,
   fun i H v H' => ∃ T x y, v = .ref T ∧ H T = none ∧ H' = upd H T (.tup [x, y]) ∧ (∀ xs, SqL K H a xs → xs[i]? = some x) ∧ ∀ ys, SqT K H b ys → ys[i]? = some y,
   fun i H => ∃ xs ys : List V, SqL K H a xs ∧ SqT K H b ys ∧ min xs.length ys.length = i⟩
theorem sepM {z TI TO i1 i2 a b : Addr} (D : ZipApart z TI TO i1 i2 a b) : ZipSep2 z TI TO i1 i2 [i1, a] [i2, b] := by
  refine ⟨D.TIz, D.TOz, D.TITO, D.TIi1, by simp, ?_, ?_, D.TIi2, by simp, ?_, ?_, ?_, ?_⟩ <;>
    simp only [List.mem_cons, List.not_mem_nil, or_false, not_or]
  · exact ⟨D.i1z.symm, D.l1z.symm⟩
  · exact ⟨D.TOi1, D.l1TO.symm⟩
  · exact ⟨D.i2z.symm, D.l2z.symm⟩
  · exact ⟨D.TOi2, D.l2TO.symm⟩
  · exact ⟨D.i12, D.l2i1.symm⟩
  · exact ⟨D.i12.symm, D.l1i2.symm⟩
theorem turn_zipM {P : Program} {w : World} {K : PySem.W.Frag} {elts : List Expr} {kk : Nat} {tpos : Pos} {a b z TI TO i1 i2 : Addr} (D : ZipApart z TI TO i1 i2 a b) :
    Turn P w K (.Tuple elts kk tpos) (ItzM K a b) [z, TI, TO, i1, i2] z
      (fun i h => IsZip h z TI TO .none ∧ IsPair h TI (.ref i1) (.ref i2) ∧ (∃ x y, IsPair h TO x y) ∧ h.IsListIter i1 a i ∧ h.IsTupleIter i2 b i) where
  mem := by simp
  obj := by
    rintro i h ⟨hz, hTI, ⟨x, y, hTO⟩, ⟨o1, e1, _, d1⟩, ⟨o2, e2, _, d2⟩⟩ c hc
    simp only [List.mem_cons, List.not_mem_nil, or_false] at hc
    rcases hc with rfl | rfl | rfl | rfl | rfl
    · exact ⟨_, hz, fun v q => nomatch q⟩
    · exact ⟨_, hTI, fun v q => nomatch q⟩
    · exact ⟨_, hTO, fun v q => nomatch q⟩
    · exact ⟨o1, e1, fun v q => by rw [d1] at q; cases q⟩
    · exact ⟨o2, e2, fun v q => by rw [d2] at q; cases q⟩
  keep := by
    rintro i h h' ⟨hz, hTI, ⟨x, y, hTO⟩, h1, h2⟩ k
    exact ⟨k z (by simp) _ hz, k TI (by simp) _ hTI, ⟨x, y, k TO (by simp) _ hTO⟩, h1.at fun o q => k i1 (by simp) o q, h2.at fun o q => k i2 (by simp) o q⟩
  item := by
    intro X hP hw hK hc i pins s σ H E I hf st hg
    subst hP hw hK
    obtain ⟨hz, hTI, ⟨x0, y0, hTO⟩, h1, h2⟩ := st
    obtain ⟨xs, ys, x, y, hqx, hqy, hx, hy⟩ := hg
    obtain ⟨its, rv, p, _⟩ := I.list hqx
    obtain ⟨its2, rv2, p2, _⟩ := I.tuple hqy
    obtain ⟨u, hu, ru⟩ := rv.get hx
    obtain ⟨u2, hu2, ru2⟩ := rv2.get hy
    have hzl : z < s.heap.objs.size := Heap.lt_size hz
    have hl1 : i < its.toArray.size := by have := (List.getElem?_eq_some_iff.mp hu).1; simpa using this
    have hl2 : i < its2.toArray.size := by have := (List.getElem?_eq_some_iff.mp hu2).1; simpa using this
    refine wpAny_pyNext_zipD2_item (sepM D) (Draws.list (A := X.A.in1) (I.ok.hd hc) i1 a D.l1i1 its.toArray) (Draws.tuple (A := X.A.in1) (I.ok.hd hc) i2 b D.l2i2 its2.toArray) hz hTI hTO ⟨h1, p.isList⟩ ⟨h2, p2⟩ hl1 hl2 ?_
    intro v1 v2 h' tk hv1 hv2 z' TO' st1 st2 hT hsz hk
    have e1 : v1 = u := by
      have h3 : its.toArray[i]? = some u := by simpa using hu
      rw [show its.toArray[i]? = some v1 from hv1] at h3
      exact Option.some.inj h3
    have e2 : v2 = u2 := by
      have h3 : its2.toArray[i]? = some u2 := by simpa using hu2
      rw [show its2.toArray[i]? = some v2 from hv2] at h3
      exact Option.some.inj h3
    subst e1 e2
    refine ⟨_, rfl, wpAny_letOwnedTupleGo_zip (s := { s with heap := h', toks := tk }) z' fun h'' z'' sb => ?_⟩
    have hT2 : h''.get? s.heap.objs.size = some { cls := .type "tuple", data := .seq #[v1, v2] } := (sb.2 _ (Nat.ne_of_gt hzl)).trans hT
    have new : ObjOk X.prog X.w (upd H s.heap.objs.size (.tup [x, y])) h'' s.heap.objs.size (.tup [x, y]) :=
      ⟨by show 2 ≤ sizeLine; decide, [v1, v2], .cons ru (.cons ru2 .nil), ⟨_, hT2, rfl, _, rfl⟩⟩
    have kk : ∀ c o, c ∉ [z, TI, TO, i1, i2] → s.heap.get? c = some o → h''.get? c = some o := by
      intro c o hb q
      simp only [List.mem_cons, List.not_mem_nil, or_false, not_or] at hb
      exact (sb.2 c hb.1).trans (hk c o hb.1 hb.2.2.1 hb.2.2.2.1 hb.2.2.2.2 q)
    have I1 : Inv X pins σ (upd H s.heap.objs.size (.tup [x, y])) { s with heap := h'', toks := tk } :=
      I.turnedNew (t' := tk) (ch := [z, TI, TO, i1, i2]) kk hf (Nat.le_refl _) new
    refine ⟨.ref s.heap.objs.size, _, I1, rfl, ⟨_, x, y, rfl, I.hok.fresh (Nat.le_refl _), rfl, fun l hl => by rw [I.list_inj hl hqx]; exact hx, fun l hl => by rw [I.tuple_inj hl hqy]; exact hy⟩, ⟨z'', ?_, ⟨v1, v2, ?_⟩, ?_, ?_⟩, ?_⟩
    · exact (sb.2 _ D.TIz).trans (hk _ _ D.TIz D.TITO D.TIi1 D.TIi2 hTI)
    · exact (sb.2 _ D.TOz).trans TO'
    · exact st1.1.at fun o q => (sb.2 _ D.i1z).trans q
    · exact st2.1.at fun o q => (sb.2 _ D.i2z).trans q
    · intro c hcm
      have hlt : c < s.heap.objs.size := by
        simp only [List.mem_cons, List.not_mem_nil, or_false] at hcm
        rcases hcm with rfl | rfl | rfl | rfl | rfl
        · exact hzl
        · exact Heap.lt_size hTI
        · exact Heap.lt_size hTO
        · obtain ⟨_, e1, _⟩ := h1; exact Heap.lt_size e1
        · obtain ⟨_, e2, _⟩ := h2; exact Heap.lt_size e2
      rw [upd_ne (Nat.ne_of_lt hlt)]
      exact (hf c hcm).1
  done := by
    intro X hP hw hK hc i pins s σ H E I hf st hg
    subst hP hw hK
    obtain ⟨hz, hTI, ⟨x0, y0, hTO⟩, h1, h2⟩ := st
    obtain ⟨xs, ys, hqx, hqy, hend⟩ := hg
    obtain ⟨its, rv, p, _⟩ := I.list hqx
    obtain ⟨its2, rv2, p2, _⟩ := I.tuple hqy
    have l1 := rv.length
    have l2 := rv2.length
    refine wpAny_pyNext_zipD2_end (i := i) (sepM D) (Draws.list (A := X.A.in1) (I.ok.hd hc) i1 a D.l1i1 its.toArray) (Draws.tuple (A := X.A.in1) (I.ok.hd hc) i2 b D.l2i2 its2.toArray) hz hTI hTO ⟨h1, p.isList⟩ ⟨h2, p2⟩ (by simp; omega) (by simp; omega) (by simp; omega) ?_
    intro h' tk hk
    refine ⟨rfl, I.turnedL (t' := tk) (ch := [z, TI, TO, i1, i2]) ?_ hf⟩
    intro c o hb q
    simp only [List.mem_cons, List.not_mem_nil, or_false, not_or] at hb
    exact hk c o hb.1 hb.2.2.1 hb.2.2.2.1 hb.2.2.2.2 q
  self := fun A i s Q E st h => wpAny_pyIter_zip st.1 h
def iZipM (K : PySem.W.Frag) (ta : TA) : TI := fun σ H R => ta σ H fun vs H1 => ∃ a b xs ys, vs = [.ref a, .ref b] ∧ SqL K H1 a xs ∧ SqT K H1 b ys ∧ R (ItzM K a b) H1
theorem pi_zipM {X : Cx} {e e2 : Expr} {ta : TA} {p pos tpos : Pos} {elts : List Expr} {kk : Nat} (hg : Gl X "zip") (hm : X.mg "zip" = none) (ha : PA X [e, e2] ta)
    (hs : starEach [e, e2] X.env = (false, eval e X.env) :: starEach [e2] X.env := by rfl) (hpl : (backTo pos (starEach [e2] X.env)).any (·.1) = false := by rfl) :
    PI X (.Tuple elts kk tpos) (.Call (.Name "zip" p) [e, e2] [] pos) (iZipM X.K ta) := by
  constructor
  intro pins s σ H R I h
  refine Call_ (ld_blt I hg hm PyProof.Rows.boot_zip (PyProof.Rows.callWith_type1 (thn (ha.run pos pins s σ H _ I h) ?_) hs hpl))
  rintro us s1 ⟨vs, H1, I1, r1, a, b, xs, ys, rfl, hqx, hqy, q⟩
  obtain ⟨u, v, rfl, rfl, rfl⟩ := vals2 r1
  obtain ⟨its, rv, p1, _⟩ := I1.list hqx
  obtain ⟨its2, rv2, p2, _⟩ := I1.tuple hqy
  refine call_zipM p1.isList (show s1.heap.IsTuple b its2.toArray from p2) fun h' hz hTI hTO h1 h2 hk => wpAny_pyIter_zip hz ?_
  have I2 : Inv X pins σ H1 { s1 with heap := h' } := I1.kept (t' := s1.toks) hk
  refine ⟨s1.heap.objs.size + 4, [s1.heap.objs.size + 4, s1.heap.objs.size + 2, s1.heap.objs.size + 3, s1.heap.objs.size, s1.heap.objs.size + 1], _, _, H1, rfl, I2,
    turn_zipM (PySem.W.ktu_apart s1.heap.objs.size a b p1.lt (tupLt p2)), ⟨hz, hTI, ⟨_, _, hTO⟩, h1, h2⟩, ?_, q⟩
  intro c hcm
  have hle : s1.heap.objs.size ≤ c := by
    simp only [List.mem_cons, List.not_mem_nil, or_false] at hcm
    rcases hcm with rfl | rfl | rfl | rfl | rfl <;> omega
  exact I1.fpOk hle (I1.hok.fresh hle)
theorem walk_zipM {K : PySem.W.Frag} {a b : Addr} {xs ys : List V} {n : Nat} (hn : n = min xs.length ys.length) :
    Walk (ItzM K a b) n (fun H => SqL K H a xs ∧ SqT K H b ys) (YPair (fun i => xs[i]?) (fun i => ys[i]?)) := by
  subst hn
  constructor
  · rintro i H hi ⟨q1, q2⟩
    have h1 : i < xs.length := by omega
    have h2 : i < ys.length := by omega
    exact ⟨xs, ys, xs[i], ys[i], q1, q2, by simp [h1], by simp [h2]⟩
  · rintro H ⟨q1, q2⟩
    exact ⟨xs, ys, q1, q2, rfl⟩
  · rintro i H v H' _ ⟨q1, q2⟩ ⟨T, x, z, h1, h2, h3, h4, h5⟩
    exact ⟨T, x, z, h1, h2, h3, h4 xs q1, h5 ys q2⟩
end Pv

/-! t[::-1] of a tuple -/
namespace HT
open PySem PyProof.Rows
section
variable {prog : Program} {w : World} {A : Around} {E : Value → Shared → Prop} {s : Shared}
theorem pv_pickBack (xs : Array Value) : ((List.range xs.size).filterMap fun (k : Nat) => xs[(((xs.size : Int) - 1) + (k : Int) * (-1)).toNat]?) = xs.toList.reverse := by
  apply List.ext_getElem?
  intro i
  have e : ∀ n, n ≤ xs.size → ((List.range n).filterMap fun (k : Nat) => xs[(((xs.size : Int) - 1) + (k : Int) * (-1)).toNat]?) = xs.toList.reverse.take n := by
    intro n
    induction n with
    | zero => intro _; rfl
    | succ n ih =>
      intro hn
      rw [List.range_succ, List.filterMap_append, ih (by omega), List.take_add_one]
      congr 1
      have h1 : (((xs.size : Int) - 1) + (n : Int) * (-1)).toNat = xs.size - 1 - n := by omega
      rw [List.filterMap_cons, List.filterMap_nil, h1, List.getElem?_reverse (by rw [Array.length_toList]; omega), Array.length_toList, Array.getElem?_toList]
      cases xs[xs.size - 1 - n]? <;> rfl
  rw [e xs.size (Nat.le_refl _), List.take_of_length_le (by simp)]
theorem pv_appliedBack {sl : Addr} {n : Nat} {t : Tok} {Q : Int × Int × Nat → Shared → Prop} (hs : s.heap.IsSliceOf sl .none .none (.int (-1) t)) (h : Q ((n : Int) - 1, -1, n) s) :
    wpAny (model prog w) A (Builtin.Slice.sliceApplied (.ref sl) (pure (n : Int))) Q E s := by
  obtain ⟨os, hos, hcs, hds⟩ := id hs
  unfold Builtin.Slice.sliceApplied Builtin.Slice.sliceFields
  refine wpAny_bind (wpAny_bind (wpAny_field hos hds (x := .none) rfl (wpAny_bind (wpAny_field hos hds (x := .none) rfl (wpAny_bind (wpAny_field hos hds (x := .int (-1) t) rfl (wpAny_pure ?_)))))))
  refine wpAny_bind (slicePart_ (IsPart.int (-1) t) ?_)
  show wpAny _ _ (if ((-1 : Int) == 0) = true then _ else _) _ _ s
  rw [if_neg (by decide)]
  refine wpAny_bind (slicePart_ IsPart.none (wpAny_bind (slicePart_ IsPart.none (wpAny_bind (wpAny_pure ?_)))))
  show wpAny _ _ (match Builtin.Slice.sliceAdjust none none (-1) (n : Int) with | (a, b) => pure (a, (-1 : Int), Builtin.Slice.slicePlaces a b (-1))) _ _ s
  have e1 : Builtin.Slice.sliceAdjust none none (-1) (n : Int) = ((n : Int) - 1, -1) := rfl
  rw [e1]
  show wpAny _ _ (pure ((n : Int) - 1, (-1 : Int), Builtin.Slice.slicePlaces ((n : Int) - 1) (-1) (-1))) _ _ s
  have e2 : Builtin.Slice.slicePlaces ((n : Int) - 1) (-1) (-1) = n := by
    unfold Builtin.Slice.slicePlaces
    have h1 : ¬ ((-1 : Int) > 0) := by omega
    simp only [h1, if_false]
    by_cases h2 : (n : Int) - 1 > -1
    · rw [if_pos h2]
      have h3 : -(-1 : Int) = 1 := rfl
      rw [h3, Int.ediv_one]
      omega
    · rw [if_neg h2]; omega
  rw [e2]
  exact wpAny_pure h
theorem pv_getItemBack {p sl : Addr} {items : Array Value} {t : Tok} {Q : Value → Shared → Prop} (ht : IsTup s.heap p items) (hs : s.heap.IsSliceOf sl .none .none (.int (-1) t))
    (h : Q (.ref s.heap.objs.size) { s with heap := s.heap.push { cls := .type "tuple", data := .seq items.toList.reverse.toArray } }) (hsz : items.size ≤ sizeLine) : wpAny (model prog w) A (getItem (.ref p) (.ref sl)) Q E s := by
  have hfit : sizeOk (.seq items.toList.reverse.toArray) := by
    show items.toList.reverse.toArray.size ≤ sizeLine
    rw [List.size_toArray, List.length_reverse]; simpa using hsz
  obtain ⟨os, hos, hcs, hds⟩ := id hs
  have hT : s.TypeIs (.ref sl) "slice" := ⟨os, hos, hcs⟩
  unfold getItem; try with_reducible refine wpAny_holding ?_
  first | refine wpAny_bind (wpAny_pure ?_) | skip
  refine wpAny_bind (wpAny_sequenceKey ht.typeIs (by decide) (wpAny_bind (wpAny_callSpecial?_slot (name := Str.ofString "__getitem__") ht.typeIs PyProof.Rows.slot_tuple_getitem
    (wpAny_call_entry PyProof.Rows.slot_tuple_getitem ht.typeIs entry_tuple_getitem ?_ (args_tuple_getitem _ _)))))
  show wpAny _ _ (Builtin.Tuple.tupleItemsOf (.ref p) >>= _) _ _ s
  refine wpAny_bind (tupleItemsOf_ ht (wpAny_bind (wpAny_typeOf hT ?_)))
  rw [if_pos (by decide)]
  refine wpAny_bind (pv_appliedBack hs ?_)
  show wpAny _ _ (if (((items.size : Int) - 1) == 0 && (-1 : Int) == 1 && items.size == items.size) = true then _ else _) _ _ s
  rw [if_neg (by simp)]
  show wpAny _ _ (Builtin.Tuple.tupleExact ((List.range items.size).filterMap fun (k : Nat) => items[(((items.size : Int) - 1) + (k : Int) * (-1)).toNat]?).toArray >>= _) _ _ s
  rw [pv_pickBack]
  first
    | exact wpAny_bind (m := Builtin.Tuple.tupleExact _) (wpAny_newObj_type (wpAny_pure ⟨_, rfl, wpAny_pure h⟩) hfit)
    | exact wpAny_bind (m := Builtin.Tuple.tupleExact _) (wpAny_newObj_type (wpAny_bind (wpAny_pure (wpAny_pure ⟨_, rfl, wpAny_pure h⟩))) hfit)
    | exact wpAny_bind (wpAny_bind (m := Builtin.Tuple.tupleExact _) (wpAny_newObj_type (wpAny_pure (wpAny_pure ⟨_, rfl, wpAny_pure h⟩)) hfit))
    | exact wpAny_bind (wpAny_bind (m := Builtin.Tuple.tupleExact _) (wpAny_newObj_type (wpAny_pure ⟨_, rfl, wpAny_pure h⟩) hfit))
end
end HT
namespace Pv
open PySem PySem.Spec PyProof.Rows L2
def tRevT (K : PySem.W.Frag) (te : TE) : TE := fun σ H Q => te σ H fun x H1 => ∃ (a : Addr) (xs : List V), x = .ref a ∧ SqT K H1 a xs ∧ ∀ p, H1 p = none → Q (.ref p) (upd H1 p (.tup xs.reverse))
section
variable {X : Cx}
theorem pe_revT {e : Expr} {te : TE} {k : Nat} {p1 p2 p3 pos : Pos} (he : PE X e te) : PE X (.Subscript e (.Slice none none (some (.UnaryOp .USub (.Constant (.int 1) k p1) p2)) p3) pos) (tRevT X.K te) := by
  constructor
  intro pins s σ H Q I h
  refine Subscript_ (thn (he.run pins s σ H _ I h) ?_)
  rintro v s1 ⟨x, H1, I1, r1, a, xs, rfl, hx, q⟩
  cases r1
  have hst : PO X (some (.UnaryOp .USub (.Constant (.int 1) k p1) p2)) (tPart (tUn (rU fun i => .int (-i)) (tC (.int 1)))) := po_some (pe_un un_neg pe_int)
  refine wpAny_Slice (thn (po_none.run pins s1 σ H1 (fun o H2 => o = none ∧ H2 = H1) I1 ⟨rfl, rfl⟩) ?_)
  rintro vl s2 ⟨l, H2, I2, pl, rfl, rfl⟩
  refine thn (po_none.run pins s2 σ H2 (fun o H3 => o = none ∧ H3 = H2) I2 ⟨rfl, rfl⟩) ?_
  rintro vu s3 ⟨u, H3, I3, pu, rfl, rfl⟩
  refine thn (hst.run pins s3 σ H3 (fun o H4 => o = some (-1) ∧ H4 = H3) I3 ⟨1, rfl, -1, rfl, rfl, rfl⟩) ?_
  rintro vs s4 ⟨o, H4, I4, ps, rfl, rfl⟩
  have I5 : Inv X pins σ H4 { s4 with heap := s4.heap.push { cls := .type "slice", data := .fields #[vl, vu, vs] } } := I4.kept (t' := s4.toks) fun b ob q => Heap.get?_push_of_some _ q
  obtain ⟨its, r, ht, hz⟩ := I5.tuple hx
  have hlen := r.length
  cases pl
  cases pu
  cases ps
  show wpAny (model X.prog X.w) X.A (subscriptTail e (.Slice none none (some (.UnaryOp .USub (.Constant (.int 1) k p1) p2)) p3) (.ref a) (.ref s4.heap.objs.size)) (EP X pins σ Q) X.xe _
  refine tail_any (ops := [.ref a, .ref s4.heap.objs.size]) ht.typeIs (PyProof.Rows.slot_tuple_getitem.lookup) ?_ (by with_unfolding_all rfl)
  refine HT.pv_getItemBack ht (Heap.IsSliceOf.new _ _ _ _) ?_ (by rw [List.size_toArray]; omega)
  refine ⟨.ref _, _, I5.laid (t' := s4.toks) (o := .tup xs.reverse) (fun b ob q => Heap.get?_push_of_some _ q) (Nat.le_refl _) ?_, rfl, q _ (I5.hok.fresh (Nat.le_refl _))⟩
  exact ⟨by rw [List.length_reverse]; exact hz, _, r.reverse, IsTup.new _ _⟩
/-! list == [], tuple != () whatever the items are -/
def rEqNil (K : PySem.W.Frag) : R2 := fun x y H Q => ∃ (a b : Addr) (xs : List V), x = .ref a ∧ y = .ref b ∧ SqL K H a xs ∧ SqL K H b [] ∧ Q (.bl xs.isEmpty) H
theorem op_eqNil (hu : X.A.units < cLine) : OpR X (compareOp .Eq) (rEqNil X.K) := by
  intro pins s σ H x y v u Q I rx ry h
  obtain ⟨a, b, xs, rfl, rfl, ha, hb, q⟩ := h
  cases rx
  cases ry
  obtain ⟨its, r1, p1, z1⟩ := I.list ha
  obtain ⟨its2, r2, p2, z2⟩ := I.list hb
  cases r2
  cases xs with
  | nil =>
    cases r1
    exact SeqAt.RcAt.lists (e := fun _ => true) p1.isList p2.isList rfl hu (fun j h1 _ => absurd h1 (Nat.not_lt_zero _)) X.prog X.w _ _ ⟨.bl true, H, I, rfl, q⟩
  | cons x xs =>
    have hl := r1.length
    exact SeqAt.RcAt.lists_lengths p1.isList p2.isList (by rw [List.size_toArray, ← hl]; rfl) hu X.prog X.w _ _ ⟨.bl false, H, I, rfl, q⟩
def rNeNilT (K : PySem.W.Frag) : R2 := fun x y H Q => ∃ (a b : Addr) (xs : List V), x = .ref a ∧ y = .ref b ∧ SqT K H a xs ∧ SqT K H b [] ∧ Q (.bl (!xs.isEmpty)) H
theorem op_neNilT (hu : X.A.units < cLine) : OpR X (compareOp .NotEq) (rNeNilT X.K) := by
  intro pins s σ H x y v u Q I rx ry h
  obtain ⟨a, b, xs, rfl, rfl, ha, hb, q⟩ := h
  cases rx
  cases ry
  obtain ⟨its, r1, p1, z1⟩ := I.tuple ha
  obtain ⟨its2, r2, p2, z2⟩ := I.tuple hb
  cases r2
  have hl := r1.length
  have key := SeqAt.RcNeAt.tuples (A := X.A) (e := fun _ => true) (show s.heap.IsTuple a its.toArray from p1) (show s.heap.IsTuple b ([] : List Value).toArray from p2) hu (fun j _ h2 => absurd h2 (Nat.not_lt_zero _)) X.prog X.w
  have e : (!((List.range (min its.toArray.size ([] : List Value).toArray.size)).all (fun _ => true) && its.toArray.size == ([] : List Value).toArray.size)) = !xs.isEmpty := by
    rw [List.size_toArray, ← hl]
    cases xs <;> simp
  rw [e] at key
  exact key _ _ ⟨.bl _, H, I, rfl, q⟩
end
end Pv

namespace Pv
open PySem PySem.Spec PyProof.Rows L2
theorem samePut {H H1 : Hp} {D : Addr} {o : HO} (s : Same H H1) (nD : H D = none) : Same H (upd H1 D o) := fun b z e => by rw [upd_ne (ne_of_none e nD)]; exact s b z e
theorem ty_sq {K : PySem.W.Frag} {H : Hp} {a : Addr} {xs : List V} (h : SqT K H a xs) : TyX K H (.ref a) (.type "tuple") := by
  rcases h with (h | ⟨o, h⟩) | ⟨o, its, n, h, hc, _⟩
  · exact .base (.tup h)
  · exact .fTuple h
  · exact .kTuple h hc
theorem small {n : Nat} (h : n ≤ 1000000) : n < sizeLine := Nat.lt_of_le_of_lt h (by decide)
def addAt (ls : List Int) (p x : Int) : List Int := ls.set p.toNat (ls.getD p.toNat 0 + x)
theorem addAt_len (ls : List Int) (p x : Int) : (addAt ls p x).length = ls.length := by simp [addAt]
theorem freeOf {H : Hp} {p b : Addr} {o : HO} (h : upd H p o b = none) : H b = none := by
  by_cases e : b = p
  · subst e; rw [upd_same] at h; cases h
  · rw [upd_ne e] at h; exact h
theorem ixN_nat {n j : Nat} (h : j < n) : ixN n (j : Int) = some j := by
  unfold ixN
  rw [if_pos (by omega), if_pos (by omega)]
  simp
theorem zip_take {α β : Type} : ∀ (n : Nat) (a : List α) (b : List β), (a.take n).zip (b.take n) = (a.zip b).take n
  | 0, _, _ => by simp
  | _ + 1, [], _ => by simp
  | _ + 1, _ :: _, [] => by simp
  | n + 1, x :: a, y :: b => by simp [zip_take n a b]
def zeros (n : Nat) : List Int := List.replicate n 0
theorem zeros_V (n : Nat) : (List.replicate n [V.int 0]).flatten = (zeros n).map V.int := by
  unfold zeros
  induction n with
  | zero => rfl
  | succ n ih => rw [List.replicate_succ, List.flatten_cons, ih]; rfl
theorem zip_snoc {α β : Type} {a : List α} {b : List β} {i : Nat} {x : α} {y : β} (hx : a[i]? = some x) (hy : b[i]? = some y) : (a.take (i + 1)).zip (b.take (i + 1)) = (a.take i).zip (b.take i) ++ [(x, y)] := by
  rw [zip_take, zip_take, List.take_add_one]
  have : (a.zip b)[i]? = some (x, y) := by
    rw [List.getElem?_zip_eq_some]; exact ⟨hx, hy⟩
  rw [this]; rfl
theorem take_snoc {α : Type} {l : List α} {i : Nat} {x : α} (h : l[i]? = some x) : l.take (i + 1) = l.take i ++ [x] := by rw [List.take_add_one, h]; rfl
theorem cut_to (xs : List V) (n : Nat) : cutV xs none (some (n : Int)) = xs.take n := by
  unfold cutV
  rw [HT.sIx_none, HT.sIx_nat, List.drop_zero, Nat.sub_zero]
  by_cases h : n ≤ xs.length
  · rw [Nat.min_eq_left h]
  · rw [Nat.min_eq_right (by omega), List.take_length, List.take_of_length_le (by omega)]
def absI (i : Int) : Int := if i < 0 then -i else i
theorem absI_nn (i : Int) : 0 ≤ absI i := by unfold absI; split <;> omega
def restI (c : Int) : Int := c * (if decide ((10 : Int) ^ (18 : Int).toNat ≤ c) = true then 1 else 0)
theorem restI_nn {c : Int} (h : 0 ≤ c) : 0 ≤ restI c := by unfold restI; split <;> omega
structure InsOk (cs : List Int) (gs : List Gp) : Prop where
  c1 : 1 ≤ cs.length
  c6 : cs.length ≤ 6
  cb : ∀ c ∈ cs, 1 ≤ c ∧ c ≤ 10 ^ 12
  g1 : 1 ≤ gs.length
  g10 : gs.length ≤ 10
  gp : ∀ g ∈ gs, g.1.length ≤ 6 ∧ (∀ p ∈ g.1, 0 ≤ p ∧ p < (cs.length : Int)) ∧ 1 ≤ g.2 ∧ g.2 ≤ 10 ^ 12
theorem ExtPut {st r p : Addr} {H H1 : Hp} {o : HO} (x : Ext st r H H1) (np : H p = none) : Ext st r H (upd H1 p o) := fun b z e n1 n2 => by rw [upd_ne (ne_of_none e np)]; exact x b z e n1 n2
theorem Ext.nil {st c r p : Addr} {t : Nat} {H H1 : Hp} (x : Ext st r H H1) (d : DS H1 st c r t) (np : H1 p = none) : H p = none := by
  have o := d.off np
  cases e : H p with
  | none => rfl
  | some z => rw [x _ _ e o.1 o.2.2] at np; cases np
def upTo (n : Nat) : List Int := (List.range n).map fun (i : Nat) => (i : Int)
theorem rgV_upTo (n : Nat) : rgV 0 (n : Int) = (upTo n).map V.int := by
  unfold rgV upTo
  rw [List.map_map]
  simp
theorem upTo_len (n : Nat) : (upTo n).length = n := by simp [upTo]
theorem upTo_mem {n : Nat} {x : Int} (h : x ∈ upTo n) : 0 ≤ x ∧ x < n := by
  unfold upTo at h
  obtain ⟨i, hi, rfl⟩ := List.mem_map.mp h
  have := List.mem_range.mp hi
  omega
theorem erase_map {α β : Type} (f : α → β) : ∀ (l : List α) (k : Nat), (l.map f).eraseIdx k = (l.eraseIdx k).map f
  | [], _ => rfl
  | _ :: _, 0 => rfl
  | x :: l, k + 1 => by simp [erase_map f l k]
theorem fine_grp {cs : List Int} {gs : List Gp} (ok : InsOk cs gs) {g : Gp} (hg : g ∈ gs) : Fine 2 500 (dGrp g) := by
  obtain ⟨h1, h2, h3, h4⟩ := ok.gp g hg
  refine (fine_tup (k := 1) (B := 200) (n := 2) (xs := [dI g.1, .int g.2]) ?_ (by simp)).mono (by omega) (by omega)
  intro x hx
  simp at hx
  rcases hx with rfl | rfl
  · exact (fine_dI (n := 6) (fun p hp => by have := h2 p hp; have := ok.c6; omega) h1).mono (by omega) (by omega)
  · exact (fine_int (by omega)).mono (by omega) (by omega)
theorem fine_inst {cs : List Int} {gs : List Gp} (ok : InsOk cs gs) : Fine 4 20000 (dInst cs gs) := by
  refine (fine_tup (k := 3) (B := 8000) (n := 2) (xs := [dI cs, .tuple (gs.map dGrp)]) ?_ (by simp)).mono (by omega) (by omega)
  intro x hx
  simp at hx
  rcases hx with rfl | rfl
  · exact (fine_dI (n := 6) (fun p hp => by have := ok.cb p hp; omega) ok.c6).mono (by omega) (by omega)
  · refine (fine_tup (k := 2) (B := 500) (n := 10) ?_ (by rw [List.length_map]; exact ok.g10)).mono (by omega) (by omega)
    intro d hd
    obtain ⟨g, hg, rfl⟩ := List.mem_map.mp hd
    exact fine_grp ok hg
theorem hu70 {k : Nat} {A : Around} (hr : Room k A) : A.units + 70 < cLine := by have := hr.un; omega
theorem ty_sqL {K : PySem.W.Frag} {H : Hp} {a : Addr} {xs : List V} (h : SqL K H a xs) : TyX K H (.ref a) (.type "list") := by
  rcases h with (h | ⟨o, h⟩) | ⟨o, its, n, h, hc, _⟩
  · exact .base (.lst h)
  · exact .base (.frz h)
  · exact .kList h hc
theorem FnOk.none {P : Program} {w : World} {K : PySem.W.Frag} {mg : Str → Option Value} {base : Heap} {k : Nat} {f : Addr} {fd : FuncData} {ps : List Str} : FnOk P w K mg base CX0 k f fd ps (fun _ _ _ _ => False) :=
  ⟨fun _ _ _ _ h => h.elim, fun _ _ _ _ _ _ _ _ _ _ _ _ _ h => h.elim⟩
end Pv

namespace Pv
open PySem PySem.Spec PyProof.Rows L2
/-! a comprehension whose elements only make new objects -/
def LcP {α : Type} (H1 : Hp) (D : Addr) (zs : List α) (F : α → Option V) (i : Nat) (H : Hp) : Prop := Same H1 H ∧ H D = some (.lst ((zs.take i).filterMap F))
section
variable {α : Type} {H1 H H' : Hp} {D : Addr} {zs : List α} {F : α → Option V} {i : Nat} {x : α} {y : V}
theorem LcP.start (nD : H1 D = none) : LcP H1 D zs F 0 (upd H1 D (.lst [])) := ⟨sameNew nD, by rw [upd_same]; rfl⟩
theorem LcP.yes (h : LcP H1 D zs F i H) (nD : H1 D = none) (s : Same H H') (hx : zs[i]? = some x) (hF : F x = some y) (hi : i ≤ 1000000) : ∃ acc, H' D = some (.lst acc) ∧ acc.length < sizeLine ∧ LcP H1 D zs F (i + 1) (upd H' D (.lst (acc ++ [y]))) := by
  refine ⟨_, s _ _ h.2, ?_, samePut (h.1.trans s) nD, ?_⟩
  · have h1 := List.length_filterMap_le F (zs.take i)
    have h2 := List.length_take_le i zs
    exact small (by omega)
  · rw [upd_same, take_snoc hx, List.filterMap_append]
    simp [hF]
theorem LcP.no (h : LcP H1 D zs F i H) (s : Same H H') (hx : zs[i]? = some x) (hF : F x = none) : LcP H1 D zs F (i + 1) H' := by
  refine ⟨h.1.trans s, ?_⟩
  rw [s _ _ h.2, take_snoc hx, List.filterMap_append]
  simp [hF]
theorem LcP.done (h : LcP H1 D zs F i H) (hi : zs.length ≤ i) : H D = some (.lst (zs.filterMap F)) := by have := h.2; rwa [List.take_of_length_le hi] at this
end
theorem fm_map {α : Type} (f : α → V) (zs : List α) : zs.filterMap (fun x => some (f x)) = zs.map f := by
  induction zs with
  | nil => rfl
  | cons z zs ih => simp
theorem fm_filter {α : Type} (p : α → Bool) (f : α → V) (zs : List α) : zs.filterMap (fun x => if p x = true then some (f x) else none) = (zs.filter p).map f := by
  induction zs with
  | nil => rfl
  | cons z zs ih => by_cases h : p z = true <;> simp [h, ih]
def Rl {β : Type} (R : V → β → Prop) (vs : List V) (rs : List β) : Prop := vs.length = rs.length ∧ ∀ (j : Nat) (v : V) (r : β), vs[j]? = some v → rs[j]? = some r → R v r
section
variable {β : Type} {R R' : V → β → Prop} {vs : List V} {rs : List β}
theorem Rl.nil : Rl R [] [] := ⟨rfl, fun j v r h => by simp at h⟩
theorem Rl.mono (h : Rl R vs rs) (f : ∀ v r, R v r → R' v r) : Rl R' vs rs := ⟨h.1, fun j v r h1 h2 => f _ _ (h.2 j v r h1 h2)⟩
theorem Rl.snoc {v : V} {r : β} (h : Rl R vs rs) (hv : R v r) : Rl R (vs ++ [v]) (rs ++ [r]) := by
  refine ⟨by simp [h.1], fun j v' r' h1 h2 => ?_⟩
  by_cases hj : j < vs.length
  · rw [List.getElem?_append_left hj] at h1
    rw [List.getElem?_append_left (by rw [← h.1]; exact hj)] at h2
    exact h.2 j v' r' h1 h2
  · rw [List.getElem?_append_right (by omega)] at h1
    rw [List.getElem?_append_right (by rw [← h.1]; omega)] at h2
    have e : j - vs.length = 0 := by have := (List.getElem?_eq_some_iff.mp h1).1; simp at this; omega
    rw [e] at h1
    rw [← h.1, e] at h2
    simp at h1 h2
    rw [← h1, ← h2]; exact hv
theorem Rl.at {j : Nat} {v : V} (h : Rl R vs rs) (hv : vs[j]? = some v) : ∃ r, rs[j]? = some r ∧ R v r := by
  have hj : j < rs.length := by rw [← h.1]; exact (List.getElem?_eq_some_iff.mp hv).1
  exact ⟨rs[j], List.getElem?_eq_getElem hj, h.2 j v _ hv (List.getElem?_eq_getElem hj)⟩
end
theorem sqS {K : PySem.W.Frag} {H H' : Hp} {a : Addr} {xs : List V} (s : Same H H') (h : SqT K H a xs) : SqT K H' a xs := (TupK.of s).sq h
theorem atS {xs : List Int} {j : Nat} (h : j < xs.length) : (xs.map V.int)[j]? = some (.int xs[j]) := by rw [List.getElem?_map, List.getElem?_eq_getElem h]; rfl
section
variable {X : Cx}
def rEqNilT (K : PySem.W.Frag) : R2 := fun x y H Q => ∃ (a b : Addr) (xs : List V), x = .ref a ∧ y = .ref b ∧ SqT K H a xs ∧ SqT K H b [] ∧ Q (.bl xs.isEmpty) H
theorem op_eqNilT (hu : X.A.units < cLine) : OpR X (compareOp .Eq) (rEqNilT X.K) := by
  intro pins s σ H x y v u Q I rx ry h
  obtain ⟨a, b, xs, rfl, rfl, ha, hb, q⟩ := h
  cases rx
  cases ry
  obtain ⟨its, r1, p1, z1⟩ := I.tuple ha
  obtain ⟨its2, r2, p2, z2⟩ := I.tuple hb
  cases r2
  have hl := r1.length
  have key := SeqAt.RcAt.tuples (A := X.A) (e := fun _ => true) (show s.heap.IsTuple a its.toArray from p1) (show s.heap.IsTuple b ([] : List Value).toArray from p2) hu (fun j _ h2 => absurd h2 (Nat.not_lt_zero _)) X.prog X.w
  have e : ((List.range (min its.toArray.size ([] : List Value).toArray.size)).all (fun _ => true) && its.toArray.size == ([] : List Value).toArray.size) = xs.isEmpty := by
    rw [List.size_toArray, ← hl]
    cases xs <;> simp
  rw [e] at key
  exact key _ _ ⟨.bl _, H, I, rfl, q⟩
end
end Pv

namespace Pv
open PySem PySem.Spec PyProof.Rows L2
/-! repr of any such value -/
theorem call_reprA {X : Cx} (hg : X.A.guards = some []) (hu : X.A.units + 70 < cLine) : CallR X (.builtin "repr")
    (fun xs H Q => ∃ v d st r, xs = [v] ∧ Dq X.K st r H v d ∧ d.showable = true ∧ d.depth ≤ 60 ∧ d.shown.length ≤ sizeLine ∧ Q (.str d.shown) H) := by
  intro pins s σ H xs us Q I rv h
  obtain ⟨v, d, st, r, rfl, hd, h1, h3, h4, q⟩ := h
  by_cases hv : ∃ a, v = .ref a
  · obtain ⟨a, rfl⟩ := hv
    exact call_reprQ hg hu pins s σ H _ us Q I rv ⟨a, d, st, r, rfl, hd, h1, h3, h4, q⟩
  · obtain ⟨u, rfl, ru⟩ := vals1 rv
    cases hd with
    | non => cases ru; exact PySem.P.repr_of_none ⟨.str _, H, I.tok _, ⟨_, rfl⟩, q⟩
    | bl b => cases ru; cases b <;> exact PySem.P.repr_of_bool ⟨.str _, H, I.tok _, ⟨_, rfl⟩, q⟩
    | int i =>
      obtain ⟨t, rfl⟩ := ru
      exact PySem.P.repr_of_int (by simpa [PyData.showable] using h1) ⟨.str _, H, I.tok _, ⟨_, rfl⟩, q⟩
    | str x =>
      obtain ⟨t, rfl⟩ := ru
      exact PySem.P.repr_of_str ⟨.str _, H, I.tok _, ⟨_, rfl⟩, q⟩ h4
    | lst _ => exact absurd ⟨_, rfl⟩ hv
    | tup _ => exact absurd ⟨_, rfl⟩ hv
    | dct _ => exact absurd ⟨_, rfl⟩ hv
/-! written values -/
def tLit (K : PySem.W.Frag) (d : PyData) : TE := fun _ H Q => ∃ st r, (H st ≠ none ∧ H r ≠ none) ∧ ∀ H' v, Same H H' → Dq K st r H' v d → Q v H'
def tLits (K : PySem.W.Frag) (ds : List PyData) : TA := fun _ H Q => ∃ st r, (H st ≠ none ∧ H r ≠ none) ∧ ∀ H' vs, Same H H' → DqAll K st r H' vs ds → Q vs H'
theorem occ {H H' : Hp} {st r : Addr} (h : H st ≠ none ∧ H r ≠ none) (s : Same H H') : H' st ≠ none ∧ H' r ≠ none := by
  obtain ⟨h1, h2⟩ := h
  constructor
  · cases e : H st with
    | none => exact absurd e h1
    | some o => rw [s _ _ e]; simp
  · cases e : H r with
    | none => exact absurd e h2
    | some o => rw [s _ _ e]; simp
theorem occ_ne {H : Hp} {st r p : Addr} (h : H st ≠ none ∧ H r ≠ none) (np : H p = none) : p ≠ st ∧ p ≠ r := ⟨fun e => h.1 (e ▸ np), fun e => h.2 (e ▸ np)⟩
theorem DqAll.rep {K : PySem.W.Frag} {st r : Addr} {H : Hp} {vs : List V} {ds : List PyData} (h : DqAll K st r H vs ds) : ∀ k : Nat, DqAll K st r H (List.replicate k vs).flatten (List.replicate k ds).flatten
  | 0 => .nil
  | k + 1 => by
    rw [List.replicate_succ, List.replicate_succ, List.flatten_cons, List.flatten_cons]
    exact h.app (DqAll.rep h k)
section
variable {X : Cx} {e : Expr} {es : List Expr} {pos p1 p2 : Pos} {d : PyData} {ds : List PyData}
theorem pe_mono {t t' : TE} (h : PE X e t) (m : ∀ σ H Q, t' σ H Q → t σ H Q) : PE X e t' := ⟨fun pins s σ H Q I q => h.run pins s σ H Q I (m _ _ _ q)⟩
theorem pa_mono {t t' : TA} (h : PA X es t) (m : ∀ σ H Q, t' σ H Q → t σ H Q) : PA X es t' := ⟨fun pos pins s σ H Q I q => h.run pos pins s σ H Q I (m _ _ _ q)⟩
theorem lit_c {v : V} (h : PE X e (tC v)) (hd : ∀ st r H, Dq X.K st r H v d) : PE X e (tLit X.K d) := pe_mono h fun σ H Q ⟨st, r, _, q⟩ => q H v (Same.refl H) (hd st r H)
theorem lit_int {n : Int} (h : PE X e (tC (.int n))) : PE X e (tLit X.K (.int n)) := lit_c h fun _ _ _ => .int n
theorem lit_bl {b : Bool} (h : PE X e (tC (.bl b))) : PE X e (tLit X.K (.bool b)) := lit_c h fun _ _ _ => .bl b
theorem lit_str {x : Str} (h : PE X e (tC (.str x))) : PE X e (tLit X.K (.str x)) := lit_c h fun _ _ _ => .str x
theorem lit_non (h : PE X e (tC .non)) : PE X e (tLit X.K .none) := lit_c h fun _ _ _ => .non
theorem lit_pow {a b : Int} (h : PE X e (tOp (rI CPow fun i j => .int (i ^ j.toNat)) (tC (.int a)) (tC (.int b)))) (hc : CPow a b) : PE X e (tLit X.K (.int (a ^ b.toNat))) :=
  pe_mono h fun σ H Q ⟨st, r, _, q⟩ => ⟨a, b, rfl, rfl, hc, q H _ (Same.refl H) (.int _)⟩
theorem lit_add {e1 e2 : Expr} {a b : Int} (h1 : PE X e1 (tLit X.K (.int a))) (h2 : PE X e2 (tLit X.K (.int b))) : PE X (.BinOp e1 .Add e2 pos) (tLit X.K (.int (a + b))) :=
  pe_mono (pe_op op_add h1 h2) fun σ H Q ⟨st, r, oc, q⟩ => ⟨st, r, oc, fun H1 v1 s1 d1 => ⟨st, r, occ oc s1, fun H2 v2 s2 d2 => by
    cases d1; cases d2
    exact ⟨a, b, rfl, rfl, q H2 _ (s1.trans s2) (.int _)⟩⟩⟩
theorem lits_nil : PA X [] (tLits X.K []) := pa_mono pa_nil fun σ H Q ⟨st, r, _, q⟩ => q H [] (Same.refl H) .nil
theorem lits_cons (h : PE X e (tLit X.K d)) (hs : PA X es (tLits X.K ds)) (hq : starEach (e :: es) X.env = (false, eval e X.env) :: starEach es X.env := by rfl) : PA X (e :: es) (tLits X.K (d :: ds)) :=
  pa_mono (pa_cons h hs hq) fun σ H Q ⟨st, r, oc, q⟩ => ⟨st, r, oc, fun H1 v s1 d1 => ⟨st, r, occ oc s1, fun H2 vs s2 d2 => q H2 _ (s1.trans s2) (.cons (d1.lasts (.of s2)) d2)⟩⟩
theorem small6 {n : Nat} (h : n ≤ 1000000) : n ≤ sizeLine := Nat.le_of_lt (Nat.lt_of_le_of_lt h (by decide))
theorem lit_tup {k : Nat} (h : PA X es (tLits X.K ds)) (hl : ds.length ≤ 1000000) : PE X (.Tuple es k pos) (tLit X.K (.tuple ds)) :=
  pe_mono (pe_tup h) fun σ H Q ⟨st, r, oc, q⟩ => ⟨st, r, oc, fun H1 vs s1 d1 => ⟨by rw [DqAll.len d1]; exact small6 hl, fun p np => q _ _ (s1.trans (sameNew np)) (.tup (SqT.of upd_same) (d1.lasts (.of (sameNew np))))⟩⟩
theorem lit_lst (h : PA X es (tLits X.K ds)) (hl : ds.length ≤ 1000000) : PE X (.List es pos) (tLit X.K (.list ds)) :=
  pe_mono (pe_lstS h) fun σ H Q ⟨st, r, oc, q⟩ => ⟨st, r, oc, fun H1 vs s1 d1 => ⟨by rw [DqAll.len d1]; exact small6 hl, fun p np ns => q _ _ (s1.trans (sameNew np)) (.lst upd_same (occ_ne (occ oc s1) np).1 (occ_ne (occ oc s1) np).2 ns (d1.lasts (.of (sameNew np))))⟩⟩
theorem lit_dict : PE X (.Dict [] [] pos) (tLit X.K (.dict [])) :=
  pe_mono pe_dnewK fun σ H Q ⟨st, r, oc, q⟩ => fun p np => q _ _ (sameNew np) (.dct (kvs := []) upd_same)
theorem lit_rep {e2 : Expr} {n : Int} (k : Nat) (h : PE X e (tLit X.K (.tuple ds))) (h2 : PE X e2 (tC (.int n))) (hk : n = (k : Nat)) (h1 : k ≠ 1) (hne : ds ≠ []) (hk2 : k ≤ 1000) (hl : ds.length ≤ 1000) :
    PE X (.BinOp e .Mult e2 pos) (tLit X.K (.tuple (List.replicate k ds).flatten)) :=
  pe_mono (pe_op op_repA h h2) fun σ H Q ⟨st, r, oc, q⟩ => ⟨st, r, oc, fun H1 v s1 d1 => by
    cases d1 with
    | @tup a xs _ hT ha =>
      have hx := DqAll.len ha
      refine ⟨a, k, xs, rfl, by rw [hk], hT, ?_, hk2, by omega, fun z => absurd z h1, fun _ p np => q _ _ (s1.trans (sameNew np)) (.tup (SqT.of upd_same) ((ha.rep k).lasts (.of (sameNew np))))⟩
      intro z
      subst z
      exact hne (List.eq_nil_of_length_eq_zero (by simpa using hx.symm))⟩
end
/-- a list and a written list behind it -/
theorem cat_lits {K : PySem.W.Frag} {st r L : Addr} {σ : L2.St} {H1 : Hp} {ds es : List PyData} {Q : VK} {vs : List V} (e1 : H1 L = some (.lst vs)) (h1 : DqAll K st r H1 vs ds) (hoc : H1 st ≠ none ∧ H1 r ≠ none) (hlen : ds.length + es.length ≤ 1000000)
    (hq : ∀ H' L' vs', Same H1 H' → H' L' = some (.lst vs') → L' ≠ st → L' ≠ r → DqAll K st r H' vs' (ds ++ es) → Q (.ref L') H') : tLst (tLits K es) σ H1 (fun y H2 => rCat (.ref L) y H2 Q) := by
  refine ⟨st, r, hoc, fun H2 v2 s2 h2 => ⟨by rw [DqAll.len h2]; exact small6 (by omega), fun M nM => ?_⟩⟩
  refine ⟨L, M, vs, v2, rfl, rfl, upNew nM (s2 _ _ e1), upd_same, by rw [DqAll.len h1, DqAll.len h2]; exact small6 (by omega), fun N nN => ?_⟩
  have sM := sameNew (o := .lst v2) nM
  have sN := sameNew (o := .lst (vs ++ v2)) nN
  have s1N := (s2.trans sM).trans sN
  have hN := occ_ne (occ (occ hoc s2) sM) nN
  exact hq _ N _ s1N upd_same hN.1 hN.2 ((h1.lasts (.of s1N)).app (h2.lasts (.of (sM.trans sN))))
/-! how large, by looking -/
mutual
def fitB (M L : Nat) : PyData → Bool
  | .none => true
  | .bool _ => true
  | .int i => decide (i.natAbs ≤ M)
  | .str x => decide ((reprText x).length ≤ L)
  | .list xs => fitAllB M L xs
  | .tuple xs => fitAllB M L xs
  | .dict kvs => decide ((PyData.shown (.dict kvs)).length ≤ 40) && PyData.showable (.dict kvs)
def fitAllB (M L : Nat) : List PyData → Bool
  | [] => true
  | x :: xs => fitB M L x && fitAllB M L xs
end
end Pv

namespace Pv
open PySem PySem.Spec PyProof.Rows L2
section
variable {K : PySem.W.Frag} {H : Hp} {a b : Addr} {xs ys : List V} {Q : VK}
/-! slices and sums of tuples, whichever object comes back -/
theorem take_eq (hP : SqT K H a xs) (n : Nat) (h : ∀ (H' : Hp) (b : Addr), Same H H' → SqT K H' b (xs.take n) → Q (.ref b) H') : rSlA K (.ref a) none (some (n : Int)) H Q := by
  have hcut : cutV xs none (some (n : Int)) = xs.take n := cut_to _ n
  refine ⟨a, _, rfl, hP, fun hw => ?_, fun _ p np => ?_⟩
  · refine h H a (Same.refl _) ?_
    have e : xs.take n = xs := by
      rw [← hcut]
      unfold cutV
      rw [hw.1, hw.2, List.drop_zero, Nat.sub_zero, List.take_length]
    rw [e]; exact hP
  · refine h _ p (sameNew np) (SqT.of ?_)
    rw [upd_same, hcut]
theorem cut_tail (xs : List V) (n : Nat) : cutV xs (some (n : Int)) none = xs.drop n := by
  unfold cutV
  rw [HT.sIx_nat, HT.sIx_none]
  by_cases h : n ≤ xs.length
  · rw [Nat.min_eq_left h, List.take_of_length_le (by rw [List.length_drop]; exact Nat.le_refl _)]
  · rw [Nat.min_eq_right (by omega), List.drop_eq_nil_of_le (Nat.le_refl _), List.drop_eq_nil_of_le (by omega)]; simp
theorem drop_eq (hP : SqT K H a xs) (n : Nat) (h : ∀ (H' : Hp) (b : Addr), Same H H' → SqT K H' b (xs.drop n) → Q (.ref b) H') : rSlA K (.ref a) (some (n : Int)) none H Q := by
  have hcut := cut_tail xs n
  refine ⟨a, _, rfl, hP, fun hw => ?_, fun _ p np => ?_⟩
  · refine h H a (Same.refl _) ?_
    have e : xs.drop n = xs := by
      rw [← hcut]
      unfold cutV
      rw [hw.1, hw.2, List.drop_zero, Nat.sub_zero, List.take_length]
    rw [e]; exact hP
  · refine h _ p (sameNew np) (SqT.of ?_)
    rw [upd_same, hcut]
theorem cat_eq (ha : SqT K H a xs) (hb : SqT K H b ys) (hz : xs.length + ys.length ≤ sizeLine) (h : ∀ (H' : Hp) (p : Addr), Same H H' → SqT K H' p (xs ++ ys) → Q (.ref p) H') : rCatA K (.ref a) (.ref b) H Q := by
  refine ⟨a, b, xs, ys, rfl, rfl, ha, hb, hz, fun e => ?_, fun _ e => ?_, fun _ _ p np => ?_⟩
  · subst e; exact h H b (Same.refl _) (by simpa using hb)
  · subst e; exact h H a (Same.refl _) (by simpa using ha)
  · exact h _ p (sameNew np) (SqT.of upd_same)
end
/-! the greatest of a tuple of ints -/
def rMaxT (K : PySem.W.Frag) : RC := fun xs H Q => ∃ (a : Addr) (ns : List Int), xs = [.ref a] ∧ SqT K H a (ns.map V.int) ∧ 0 < ns.length ∧ ∀ m, m ∈ ns → (∀ y ∈ ns, y ≤ m) → Q (.int m) H
theorem call_maxT {X : Cx} (hc : X.calm = true) : CallR X (.builtin "max") (rMaxT X.K) := by
  intro pins s σ H xs us Q I r h
  obtain ⟨a, ns, rfl, hT, hne, q⟩ := h
  obtain ⟨u, rfl, rfl⟩ := vals1 r
  obtain ⟨its, rv, ht, hz⟩ := I.tuple hT
  have hi : IntsAre its ns := rv.ints
  obtain ⟨ys, e⟩ := hi.allInts.items
  have hn : numsOf (intItems ys).toList = ns := by rw [← e]; exact hi.numsOf
  rw [nums_intItems] at hn
  rw [e] at ht
  subst hn
  have hsz : 0 < ys.size := by simpa using hne
  have ht' : s.heap.IsTuple a (intItems ys) := ht
  have hlt : a < s.heap.objs.size := by obtain ⟨_, z, _⟩ := ht; exact Heap.lt_size z
  refine call_max_walk (wpAny_pyIter_tuple ht' ?_)
  refine ⟨_, _, _, _, _, _, _, rfl, Walks.tuple (A := X.A.in1) (I.ok.hd hc) _ a (Nat.ne_of_lt hlt) (intItems ys), ⟨⟨_, Heap.get?_push_size _ rfl, rfl, rfl⟩, ht'.push _⟩, ?_, by simpa [intItems] using hsz, CmpOf.ints_gt (numAt ys) (fun _ _ => intItems_at), ?_⟩
  · intro b hb
    show b < (s.heap.push _).objs.size
    rw [Heap.size_push]
    simp only [List.mem_cons, List.not_mem_nil, or_false] at hb
    rcases hb with rfl | rfl
    · exact Nat.lt_succ_self _
    · exact Nat.lt_succ_of_lt hlt
  · intro v h' tk hP hk
    have hP' : (intItems ys)[argBest (fun i j => decide (numAt ys i > numAt ys j)) (ys.size - 1)]? = some v := by simpa [intItems] using hP
    obtain ⟨t, rfl⟩ := intItems_at hP'
    obtain ⟨h1, h2⟩ := argBest_gt (numAt ys) (ys.size - 1)
    refine ⟨.int _, H, I.kept (t' := tk) (h' := h') ?_, ⟨_, rfl⟩, q _ ?_ ?_⟩
    · intro b o eb
      refine hk b o (fun hm => ?_) (Heap.get?_push_of_some _ eb)
      exact absurd (Heap.lt_size eb) ((List.mem_singleton.mp hm) ▸ Nat.lt_irrefl _)
    · rw [numAt_eq]; exact PySem.getD_mem (by rw [List.length_map, Array.length_toList]; omega)
    · intro y hy
      obtain ⟨j, hj, rfl⟩ := mem_getD hy
      rw [List.length_map, Array.length_toList] at hj
      rw [← numAt_eq]; exact h2 j (by omega)
end Pv

namespace Pv
open PySem PySem.Spec PyProof.Rows L2
section
variable {X : Cx} {e : Expr}
theorem lit_neg {n : Int} (h : PE X e (tUn (rU fun i => .int (-i)) (tC (.int n)))) : PE X e (tLit X.K (.int (-n))) :=
  pe_mono h fun σ H Q ⟨st, r, _, q⟩ => ⟨n, rfl, q H _ (Same.refl H) (.int _)⟩
theorem lit_a1 (h : PE X e (tDisp [(tC (.str "a"), tC (.int 1))])) : PE X e (tLit X.K (.dict [(.str "a", .int 1)])) :=
  pe_mono h fun σ H Q ⟨st, r, oc, q⟩ => fun p np => ⟨upd_same, [(.inr "a", .int 1)], rfl, by decide, by
    rw [upd_upd]
    exact q _ _ (sameNew np) (.dct (kvs := [(.inr "a", 1)]) (by rw [upd_same]; rfl))⟩
end
section
variable {K : PySem.W.Frag} {H : Hp} {a b : Addr} {xs ys : List V} {Q : VK}
theorem sl_any (hP : SqT K H a xs) (lo hi : Option Int) (h : ∀ (H' : Hp) (b : Addr), Same H H' → SqT K H' b (cutV xs lo hi) → Q (.ref b) H') : rSlA K (.ref a) lo hi H Q := by
  refine ⟨a, _, rfl, hP, fun hw => ?_, fun _ p np => ?_⟩
  · refine h H a (Same.refl _) ?_
    have e : cutV xs lo hi = xs := by
      unfold cutV
      rw [hw.1, hw.2, List.drop_zero, Nat.sub_zero, List.take_length]
    rw [e]; exact hP
  · exact h _ p (sameNew np) (SqT.of upd_same)
theorem cut_ints (xs : List Int) (lo hi : Option Int) : ∃ zs : List Int, cutV (xs.map V.int) lo hi = zs.map V.int ∧ zs.length ≤ xs.length ∧ ∀ z ∈ zs, z ∈ xs := by
  unfold cutV
  generalize HT.sIx (xs.map V.int).length 0 lo = m
  generalize HT.sIx (xs.map V.int).length (xs.map V.int).length hi - m = n
  refine ⟨(xs.drop m).take n, by rw [List.map_take, List.map_drop], ?_, fun z hz => List.mem_of_mem_drop (List.mem_of_mem_take hz)⟩
  rw [List.length_take, List.length_drop]; omega
end
/-! a tuple of ints, of at most L and at most M in size -/
def IT (K : PySem.W.Frag) (H : Hp) (p : Addr) (L M : Nat) : Prop := ∃ xs : List Int, SqT K H p (xs.map V.int) ∧ xs.length ≤ L ∧ ∀ x ∈ xs, x.natAbs ≤ M
section
variable {K : PySem.W.Frag} {H H' : Hp} {a b : Addr} {L L' M M' : Nat} {Q : VK}
theorem IT.tk (h : IT K H a L M) (s : TupK H H') : IT K H' a L M := by obtain ⟨xs, h1, h2⟩ := h; exact ⟨xs, s.sq h1, h2⟩
theorem IT.same (h : IT K H a L M) (s : Same H H') : IT K H' a L M := h.tk (.of s)
theorem IT.mono (h : IT K H a L M) (h1 : L ≤ L') (h2 : M ≤ M') : IT K H a L' M' := by obtain ⟨xs, e, l, m⟩ := h; exact ⟨xs, e, by omega, fun x hx => by have := m x hx; omega⟩
theorem IT.cut (h : IT K H a L M) (lo hi : Option Int) (q : ∀ (H' : Hp) (b : Addr), Same H H' → IT K H' b L M → Q (.ref b) H') : rSlA K (.ref a) lo hi H Q := by
  obtain ⟨xs, e, l, m⟩ := h
  obtain ⟨zs, ez, lz, mz⟩ := cut_ints xs lo hi
  exact sl_any e lo hi fun H' b s hb => q H' b s ⟨zs, by rw [← ez]; exact hb, by omega, fun z hz => m z (mz z hz)⟩
theorem IT.cat (h : IT K H a L M) (h' : IT K H b L' M) (hs : L + L' ≤ 1000000) (q : ∀ (H' : Hp) (p : Addr), Same H H' → IT K H' p (L + L') M → Q (.ref p) H') : rCatA K (.ref a) (.ref b) H Q := by
  obtain ⟨xs, e, l, m⟩ := h
  obtain ⟨ys, e', l', m'⟩ := h'
  refine cat_eq e e' (by rw [List.length_map, List.length_map]; exact small6 (by omega)) fun H' p s hp => q H' p s ⟨xs ++ ys, by rw [List.map_append]; exact hp, by rw [List.length_append]; omega, fun z hz => ?_⟩
  rcases List.mem_append.mp hz with h | h
  · exact m z h
  · exact m' z h
theorem IT.dq {st r : Addr} (h : IT K H a L M) : ∃ xs : List Int, Dq K st r H (.ref a) (dI xs) ∧ xs.length ≤ L ∧ ∀ x ∈ xs, x.natAbs ≤ M := by
  obtain ⟨xs, e, l, m⟩ := h
  exact ⟨xs, .of_dp (to_ints xs) (dI_sq e), l, m⟩
end
/-! a comprehension whose elements are new objects: R tells what they show -/
def LcR {α β : Type} (R : Hp → V → β → Prop) (H1 : Hp) (D : Addr) (zs : List α) (F : α → Option β) (i : Nat) (H : Hp) : Prop := Same H1 H ∧ ∃ vs, H D = some (.lst vs) ∧ Rl (R H) vs ((zs.take i).filterMap F)
section
variable {α β : Type} {R : Hp → V → β → Prop} {H1 H H' : Hp} {D : Addr} {zs : List α} {F : α → Option β} {i : Nat} {x : α} {y : V} {b : β}
theorem LcR.start (nD : H1 D = none) : LcR R H1 D zs F 0 (upd H1 D (.lst [])) := ⟨sameNew nD, [], upd_same, by simpa using Rl.nil⟩
theorem LcR.yes (hR : ∀ H H' v b, TupK H H' → R H v b → R H' v b) (h : LcR R H1 D zs F i H) (nD : H1 D = none) (s : Same H H') (hx : zs[i]? = some x) (hF : F x = some b) (hy : R H' y b) (hi : i ≤ 1000000) : ∃ acc, H' D = some (.lst acc) ∧ acc.length < sizeLine ∧ LcR R H1 D zs F (i + 1) (upd H' D (.lst (acc ++ [y]))) := by
  obtain ⟨s1, vs, e, hv⟩ := h
  have e' := s _ _ e
  refine ⟨vs, e', ?_, samePut (s1.trans s) nD, vs ++ [y], upd_same, ?_⟩
  · have h1 := List.length_filterMap_le F (zs.take i)
    have h2 := List.length_take_le i zs
    rw [hv.1]
    exact small (by omega)
  · have tk : TupK H' (upd H' D (.lst (vs ++ [y]))) := TupK.put e'
    rw [take_snoc hx, List.filterMap_append]
    simp only [List.filterMap_cons, hF, List.filterMap_nil]
    exact Rl.snoc (hv.mono fun v r h => hR _ _ _ _ ((TupK.of s).trans tk) h) (hR _ _ _ _ tk hy)
theorem LcR.no (hR : ∀ H H' v b, TupK H H' → R H v b → R H' v b) (h : LcR R H1 D zs F i H) (s : Same H H') (hx : zs[i]? = some x) (hF : F x = none) : LcR R H1 D zs F (i + 1) H' := by
  obtain ⟨s1, vs, e, hv⟩ := h
  refine ⟨s1.trans s, vs, s _ _ e, ?_⟩
  rw [take_snoc hx, List.filterMap_append]
  simp only [List.filterMap_cons, hF, List.filterMap_nil, List.append_nil]
  exact hv.mono fun v r h => hR _ _ _ _ (.of s) h
theorem LcR.done (h : LcR R H1 D zs F i H) (hi : zs.length ≤ i) : ∃ vs, H D = some (.lst vs) ∧ Rl (R H) vs (zs.filterMap F) := by
  obtain ⟨_, vs, e, hv⟩ := h
  rw [List.take_of_length_le hi] at hv
  exact ⟨vs, e, hv⟩
end
end Pv

namespace Pv
open PySem PySem.Spec PyProof.Rows L2
/-! another drawing state: a list of the great numbers that are left, one number of the whole script, and how often it was mixed -/
structure DV (H : Hp) (st g : Addr) (t : Nat) : Prop where
  ex : ∃ (w : Int) (k : Nat) (gr : List Int), H st = some (.lst [.ref g, .int w, .int k]) ∧ H g = some (.lst (gr.map V.int)) ∧ 0 ≤ w ∧ w < 2305843009213693951 ∧ k ≤ t ∧ gr.length ≤ 63
  n1 : st ≠ g
section
variable {H H1 H2 : Hp} {st g p : Addr} {t : Nat} {o : HO}
theorem DV.tup (d : DV H st g t) (e : Ext st g H H1) : TupK H H1 := by
  obtain ⟨w, k, gr, hs, hg, _⟩ := d.ex
  intro b xs
  refine ⟨fun h => ?_, fun u h => ?_⟩
  · exact e _ _ h (ne_of h hs (by intro z; cases z)) (ne_of h hg (by intro z; cases z))
  · exact e _ _ h (ne_of h hs (by intro z; cases z)) (ne_of h hg (by intro z; cases z))
theorem DV.same (d : DV H st g t) (s : Same H H1) : DV H1 st g t := by
  obtain ⟨w, k, gr, hs, hg, q⟩ := d.ex
  exact ⟨⟨w, k, gr, s _ _ hs, s _ _ hg, q⟩, d.n1⟩
theorem DV.new (d : DV H st g t) (np : H p = none) : DV (upd H p o) st g t := d.same (sameNew np)
theorem DV.put (d : DV H st g t) (h1 : p ≠ st) (h2 : p ≠ g) : DV (upd H p o) st g t := by
  obtain ⟨w, k, gr, hs, hg, q⟩ := d.ex
  exact ⟨⟨w, k, gr, by rw [upd_ne h1.symm]; exact hs, by rw [upd_ne h2.symm]; exact hg, q⟩, d.n1⟩
theorem DV.off (d : DV H st g t) (np : H p = none) : p ≠ st ∧ p ≠ g := by
  obtain ⟨w, k, gr, hs, hg, q⟩ := d.ex
  exact ⟨(ne_of_none hs np).symm, (ne_of_none hg np).symm⟩
theorem DV.nil (d : DV H1 st g t) (x : Ext st g H H1) (np : H1 p = none) : H p = none := by
  obtain ⟨o1, o2⟩ := d.off np
  cases e : H p with
  | none => rfl
  | some o => have := x _ _ e o1 o2; rw [np] at this; cases this
theorem DV.lasts (d : DV H st g t) (x : Ext st g H H1) : Lasts st g H H1 := by
  obtain ⟨w, k, gr, hs, hg, _⟩ := d.ex
  refine ⟨d.tup x, fun a xs e n1 n2 => x _ _ e n1 n2, fun a kvs e => ?_⟩
  exact x _ _ e (ne_of e hs (by intro z; cases z)) (ne_of e hg (by intro z; cases z))
theorem DV.mono (d : DV H st g t) {t' : Nat} (h : t ≤ t') : DV H st g t' := by
  obtain ⟨w, k, gr, hs, hg, h1, h2, h3, h4⟩ := d.ex
  exact ⟨⟨w, k, gr, hs, hg, h1, h2, by omega, h4⟩, d.n1⟩
theorem DV.occ (d : DV H st g t) : H st ≠ none ∧ H g ≠ none := by
  obtain ⟨w, k, gr, hs, hg, _⟩ := d.ex
  exact ⟨by rw [hs]; simp, by rw [hg]; simp⟩
end
end Pv

namespace Pv
open PySem PySem.Spec PyProof.Rows L2
/-! data whose lists stand at none of the places X -/
mutual
inductive Dw (K : PySem.W.Frag) (X : Addr → Prop) (H : Hp) : V → PyData → Prop
  | non : Dw K X H .non .none
  | bl (b : Bool) : Dw K X H (.bl b) (.bool b)
  | int (i : Int) : Dw K X H (.int i) (.int i)
  | str (x : Str) : Dw K X H (.str x) (.str x)
  | lst {a : Addr} {xs : List V} {ds : List PyData} : H a = some (.lst xs) → ¬ X a → a ≠ sysModules → DwAll K X H xs ds → Dw K X H (.ref a) (.list ds)
  | tup {a : Addr} {xs : List V} {ds : List PyData} : SqT K H a xs → DwAll K X H xs ds → Dw K X H (.ref a) (.tuple ds)
  | dct {a : Addr} {kvs : List (Key × Int)} : H a = some (.dK (kvs.map fun p => (p.1, V.int p.2))) → Dw K X H (.ref a) (.dict (kvs.map fun p => (kD p.1, .int p.2)))
inductive DwAll (K : PySem.W.Frag) (X : Addr → Prop) (H : Hp) : List V → List PyData → Prop
  | nil : DwAll K X H [] []
  | cons {v : V} {vs : List V} {d : PyData} {ds : List PyData} : Dw K X H v d → DwAll K X H vs ds → DwAll K X H (v :: vs) (d :: ds)
end
structure LX (X : Addr → Prop) (H H' : Hp) : Prop where
  tk : TupK H H'
  ls : ∀ a xs, H a = some (.lst xs) → ¬ X a → H' a = some (.lst xs)
  dk : ∀ a kvs, H a = some (.dK kvs) → H' a = some (.dK kvs)
section
variable {K : PySem.W.Frag} {X X' : Addr → Prop} {H H' H2 : Hp} {st g : Addr} {t : Nat}
theorem LX.refl : LX X H H := ⟨.refl _, fun _ _ e _ => e, fun _ _ e => e⟩
theorem LX.of (s : Same H H') : LX X H H' := ⟨.of s, fun a xs e _ => s _ _ e, fun a kvs e => s _ _ e⟩
theorem LX.trans (a : LX X H H') (b : LX X H' H2) : LX X H H2 := ⟨a.tk.trans b.tk, fun p xs e n => b.ls _ _ (a.ls _ _ e n) n, fun p kvs e => b.dk _ _ (a.dk _ _ e)⟩
theorem LX.ext (d : DV H st g t) (x : Ext st g H H') (h1 : X st) (h2 : X g) : LX X H H' := by
  have l := d.lasts x
  exact ⟨l.tk, fun a xs e n => l.ls a xs e (fun z => n (z ▸ h1)) (fun z => n (z ▸ h2)), l.dk⟩
theorem LX.put {D : Addr} {ys : List V} {o : HO} (e : H D = some (.lst ys)) (h : X D) : LX X H (upd H D o) :=
  ⟨TupK.put e, fun a xs ea n => by rw [upd_ne (show a ≠ D from fun z => n (by rw [z]; exact h))]; exact ea, fun a kvs ea => by rw [upd_ne (ne_of ea e (by intro z; cases z))]; exact ea⟩
mutual
theorem Dw.lx (l : LX X H H') : ∀ {d : PyData} {v : V}, Dw K X H v d → Dw K X H' v d
  | .none, _, h => by cases h; exact .non
  | .bool _, _, h => by cases h; exact .bl _
  | .int _, _, h => by cases h; exact .int _
  | .str _, _, h => by cases h; exact .str _
  | .list _, _, h => by
    cases h with
    | lst e n1 n3 hd => exact .lst (l.ls _ _ e n1) n1 n3 (DwAll.lx l hd)
  | .tuple _, _, h => by
    cases h with
    | tup e hd => exact .tup (l.tk.sq e) (DwAll.lx l hd)
  | .dict _, _, h => by
    cases h with
    | dct e => exact .dct (l.dk _ _ e)
theorem DwAll.lx (l : LX X H H') : ∀ {ds : List PyData} {vs : List V}, DwAll K X H vs ds → DwAll K X H' vs ds
  | [], _, h => by cases h; exact .nil
  | _ :: _, _, h => by
    cases h with
    | cons h1 h2 => exact .cons (Dw.lx l h1) (DwAll.lx l h2)
end
mutual
theorem Dw.weak (l : ∀ a, X' a → X a) : ∀ {d : PyData} {v : V}, Dw K X H v d → Dw K X' H v d
  | .none, _, h => by cases h; exact .non
  | .bool _, _, h => by cases h; exact .bl _
  | .int _, _, h => by cases h; exact .int _
  | .str _, _, h => by cases h; exact .str _
  | .list _, _, h => by
    cases h with
    | lst e n1 n3 hd => exact .lst e (fun z => n1 (l _ z)) n3 (DwAll.weak l hd)
  | .tuple _, _, h => by
    cases h with
    | tup e hd => exact .tup e (DwAll.weak l hd)
  | .dict _, _, h => by
    cases h with
    | dct e => exact .dct e
theorem DwAll.weak (l : ∀ a, X' a → X a) : ∀ {ds : List PyData} {vs : List V}, DwAll K X H vs ds → DwAll K X' H vs ds
  | [], _, h => by cases h; exact .nil
  | _ :: _, _, h => by
    cases h with
    | cons h1 h2 => exact .cons (Dw.weak l h1) (DwAll.weak l h2)
end
mutual
theorem Dw.dq {r : Addr} (h1 : X st) (h2 : X r) : ∀ {d : PyData} {v : V}, Dw K X H v d → Dq K st r H v d
  | .none, _, h => by cases h; exact .non
  | .bool _, _, h => by cases h; exact .bl _
  | .int _, _, h => by cases h; exact .int _
  | .str _, _, h => by cases h; exact .str _
  | .list _, _, h => by
    cases h with
    | lst e n1 n3 hd => exact .lst e (fun z => n1 (z ▸ h1)) (fun z => n1 (z ▸ h2)) n3 (DwAll.dq h1 h2 hd)
  | .tuple _, _, h => by
    cases h with
    | tup e hd => exact .tup e (DwAll.dq h1 h2 hd)
  | .dict _, _, h => by
    cases h with
    | dct e => exact .dct e
theorem DwAll.dq {r : Addr} (h1 : X st) (h2 : X r) : ∀ {ds : List PyData} {vs : List V}, DwAll K X H vs ds → DqAll K st r H vs ds
  | [], _, h => by cases h; exact .nil
  | _ :: _, _, h => by
    cases h with
    | cons a b => exact .cons (Dw.dq h1 h2 a) (DwAll.dq h1 h2 b)
end
mutual
theorem Dw.of_dp : ∀ {d : PyData} {v : V}, tupOnly d = true → Dp K H v d → Dw K X H v d
  | .none, _, _, h => by cases h; exact .non
  | .bool _, _, _, h => by cases h; exact .bl _
  | .int _, _, _, h => by cases h; exact .int _
  | .str _, _, _, h => by cases h; exact .str _
  | .list _, _, t, _ => by simp [tupOnly] at t
  | .tuple _, _, t, h => by
    cases h with
    | tup e hd => exact .tup e (DwAll.of_dp (by simpa [tupOnly] using t) hd)
  | .dict _, _, t, _ => by simp [tupOnly] at t
theorem DwAll.of_dp : ∀ {ds : List PyData} {vs : List V}, tupOnlyAll ds = true → DpAll K H vs ds → DwAll K X H vs ds
  | [], _, _, h => by cases h; exact .nil
  | d :: ds, _, t, h => by
    have t' : tupOnly d = true ∧ tupOnlyAll ds = true := by simpa [tupOnlyAll] using t
    cases h with
    | cons h1 h2 => exact .cons (Dw.of_dp t'.1 h1) (DwAll.of_dp t'.2 h2)
end
theorem DwAll.len : ∀ {vs : List V} {ds : List PyData}, DwAll K X H vs ds → vs.length = ds.length
  | _, _, .nil => rfl
  | _, _, .cons _ t => by simp [DwAll.len t]
theorem DwAll.at : ∀ {vs : List V} {ds : List PyData} {i : Nat} {v : V}, DwAll K X H vs ds → vs[i]? = some v → ∃ d, ds[i]? = some d ∧ Dw K X H v d
  | _, _, _, _, .nil, e => by simp at e
  | _, _, 0, _, .cons h _, e => by simp at e; subst e; exact ⟨_, rfl, h⟩
  | _, _, i + 1, v, .cons _ t, e => by
    obtain ⟨d, h1, h2⟩ := DwAll.at (i := i) t (by simpa using e)
    exact ⟨d, by simpa using h1, h2⟩
theorem DwAll.app : ∀ {vs ws : List V} {ds es : List PyData}, DwAll K X H vs ds → DwAll K X H ws es → DwAll K X H (vs ++ ws) (ds ++ es)
  | _, _, _, _, .nil, h => h
  | _, _, _, _, .cons h t, h' => .cons h (DwAll.app t h')
theorem DwAll.snoc {vs : List V} {ds : List PyData} {v : V} {d : PyData} (h : DwAll K X H vs ds) (h' : Dw K X H v d) : DwAll K X H (vs ++ [v]) (ds ++ [d]) := h.app (.cons h' .nil)
end
/-- all that stands -/
def dom (H : Hp) (a : Addr) : Prop := H a ≠ none
theorem dom_same {H H' : Hp} (s : Same H H') {a : Addr} (h : dom H a) : dom H' a := by
  unfold dom at *
  cases e : H a with
  | none => exact absurd e h
  | some o => rw [s _ _ e]; simp
theorem dom_new {H H' : Hp} (s : Same H H') {p : Addr} (np : H' p = none) : ¬ dom H p := fun h => dom_same s h np
/-! written values -/
def tLw (K : PySem.W.Frag) (d : PyData) : TE := fun _ H Q => ∃ X : Addr → Prop, (∀ a, X a → dom H a) ∧ ∀ H' v, Same H H' → Dw K X H' v d → Q v H'
def tLws (K : PySem.W.Frag) (ds : List PyData) : TA := fun _ H Q => ∃ X : Addr → Prop, (∀ a, X a → dom H a) ∧ ∀ H' vs, Same H H' → DwAll K X H' vs ds → Q vs H'
section
variable {X : Cx} {e : Expr} {es : List Expr} {pos p1 p2 : Pos} {d : PyData} {ds : List PyData}
theorem lw_c {v : V} (h : PE X e (tC v)) (hd : ∀ Y H, Dw X.K Y H v d) : PE X e (tLw X.K d) := pe_mono h fun σ H Q ⟨Y, _, q⟩ => q H v (Same.refl H) (hd Y H)
theorem lw_int {n : Int} (h : PE X e (tC (.int n))) : PE X e (tLw X.K (.int n)) := lw_c h fun _ _ => .int n
theorem lw_bl {b : Bool} (h : PE X e (tC (.bl b))) : PE X e (tLw X.K (.bool b)) := lw_c h fun _ _ => .bl b
theorem lw_str {x : Str} (h : PE X e (tC (.str x))) : PE X e (tLw X.K (.str x)) := lw_c h fun _ _ => .str x
theorem lw_non (h : PE X e (tC .non)) : PE X e (tLw X.K .none) := lw_c h fun _ _ => .non
theorem lw_neg {n : Int} (h : PE X e (tUn (rU fun i => .int (-i)) (tC (.int n)))) : PE X e (tLw X.K (.int (-n))) :=
  pe_mono h fun σ H Q ⟨Y, _, q⟩ => ⟨n, rfl, q H _ (Same.refl H) (.int _)⟩
theorem lw_pow {a b : Int} (h : PE X e (tOp (rI CPow fun i j => .int (i ^ j.toNat)) (tC (.int a)) (tC (.int b)))) (hc : CPow a b) : PE X e (tLw X.K (.int (a ^ b.toNat))) :=
  pe_mono h fun σ H Q ⟨Y, _, q⟩ => ⟨a, b, rfl, rfl, hc, q H _ (Same.refl H) (.int _)⟩
theorem lw_add {e1 e2 : Expr} {a b : Int} (h1 : PE X e1 (tLw X.K (.int a))) (h2 : PE X e2 (tLw X.K (.int b))) : PE X (.BinOp e1 .Add e2 pos) (tLw X.K (.int (a + b))) :=
  pe_mono (pe_op op_add h1 h2) fun σ H Q ⟨Y, oc, q⟩ => ⟨Y, oc, fun H1 v1 s1 d1 => ⟨Y, fun a h => dom_same s1 (oc a h), fun H2 v2 s2 d2 => by
    cases d1; cases d2
    exact ⟨a, b, rfl, rfl, q H2 _ (s1.trans s2) (.int _)⟩⟩⟩
theorem lws_nil : PA X [] (tLws X.K []) := pa_mono pa_nil fun σ H Q ⟨Y, _, q⟩ => q H [] (Same.refl H) .nil
theorem lws_cons (h : PE X e (tLw X.K d)) (hs : PA X es (tLws X.K ds)) (hq : starEach (e :: es) X.env = (false, eval e X.env) :: starEach es X.env := by rfl) : PA X (e :: es) (tLws X.K (d :: ds)) :=
  pa_mono (pa_cons h hs hq) fun σ H Q ⟨Y, oc, q⟩ => ⟨Y, oc, fun H1 v s1 d1 => ⟨Y, fun a h => dom_same s1 (oc a h), fun H2 vs s2 d2 => q H2 _ (s1.trans s2) (.cons (d1.lx (.of s2)) d2)⟩⟩
theorem lw_tup {k : Nat} (h : PA X es (tLws X.K ds)) (hl : ds.length ≤ 1000000) : PE X (.Tuple es k pos) (tLw X.K (.tuple ds)) :=
  pe_mono (pe_tup h) fun σ H Q ⟨Y, oc, q⟩ => ⟨Y, oc, fun H1 vs s1 d1 => ⟨by rw [DwAll.len d1]; exact small6 hl, fun p np => q _ _ (s1.trans (sameNew np)) (.tup (SqT.of upd_same) (d1.lx (.of (sameNew np))))⟩⟩
theorem lw_lst (h : PA X es (tLws X.K ds)) (hl : ds.length ≤ 1000000) : PE X (.List es pos) (tLw X.K (.list ds)) :=
  pe_mono (pe_lstS h) fun σ H Q ⟨Y, oc, q⟩ => ⟨Y, oc, fun H1 vs s1 d1 => ⟨by rw [DwAll.len d1]; exact small6 hl, fun p np ns => q _ _ (s1.trans (sameNew np)) (.lst upd_same (fun h => dom_new s1 np (oc _ h)) ns (d1.lx (.of (sameNew np))))⟩⟩
theorem lw_dict : PE X (.Dict [] [] pos) (tLw X.K (.dict [])) :=
  pe_mono pe_dnewK fun σ H Q ⟨Y, oc, q⟩ => fun p np => q _ _ (sameNew np) (.dct (kvs := []) upd_same)
theorem lw_a1 (h : PE X e (tDisp [(tC (.str "a"), tC (.int 1))])) : PE X e (tLw X.K (.dict [(.str "a", .int 1)])) :=
  pe_mono h fun σ H Q ⟨Y, oc, q⟩ => fun p np => ⟨upd_same, [(.inr "a", .int 1)], rfl, by decide, by
    rw [upd_upd]
    exact q _ _ (sameNew np) (.dct (kvs := [(.inr "a", 1)]) (by rw [upd_same]; rfl))⟩
end
end Pv

namespace Pv
open PySem PySem.Spec PyProof.Rows L2
/-! how large data is -/
mutual
def fit (M : Nat) : PyData → Prop
  | .none => True
  | .bool _ => True
  | .int i => i.natAbs ≤ M
  | .str x => (reprText x).length ≤ 400
  | .list xs => fitAll M xs
  | .tuple xs => fitAll M xs
  | .dict kvs => (PyData.shown (.dict kvs)).length ≤ 40 ∧ PyData.showable (.dict kvs) = true
def fitAll (M : Nat) : List PyData → Prop
  | [] => True
  | x :: xs => fit M x ∧ fitAll M xs
end
mutual
def wt : PyData → Nat
  | .none => 40
  | .bool _ => 40
  | .int _ => 40
  | .str _ => 400
  | .list xs => wtAll xs + 3
  | .tuple xs => wtAll xs + 3
  | .dict _ => 40
def wtAll : List PyData → Nat
  | [] => 0
  | x :: xs => wt x + 2 + wtAll xs
end
theorem int_text {i : Int} {M : Nat} (h : i.natAbs ≤ M) (hM : M < 10 ^ 35) : (PyData.int i).showable = true ∧ (PyData.int i).shown.length ≤ 40 := by
  have h' : i.natAbs < 10 ^ 35 := by omega
  refine ⟨?_, ?_⟩
  · simp only [PyData.showable, decide_eq_true_eq]
    have : i.natAbs.log2 < 200 := by
      by_cases h0 : i.natAbs = 0
      · rw [h0]; decide
      · exact (Nat.log2_lt h0).mpr (Nat.lt_trans h' (by decide))
    omega
  · have e := int_text_length_le10 (k := 35) (by decide) h'
    show (Str.ofString (toString i)).length ≤ 40
    rw [PySem.ofString_length]
    omega
mutual
theorem fit_ok {M : Nat} (hM : M < 10 ^ 35) : ∀ {d : PyData}, fit M d → d.showable = true ∧ d.shown.length ≤ wt d
  | .none, _ => by simp only [PyData.showable, PyData.shown, wt]; decide
  | .bool b, _ => by cases b <;> (simp only [PyData.showable, PyData.shown, wt]; decide)
  | .int i, h => by
    have := int_text (i := i) (M := M) (by simpa only [fit] using h) hM
    simp only [wt]; exact this
  | .str x, h => by simp only [fit] at h; simp only [PyData.showable, PyData.shown, wt]; exact ⟨trivial, h⟩
  | .list xs, h => by
    obtain ⟨h1, h2⟩ := fitAll_ok hM (xs := xs) (by simpa only [fit] using h)
    simp only [PyData.showable, PyData.shown, wt]
    refine ⟨h1, ?_⟩
    have e := listText_len_le (PyData.shownAll xs)
    omega
  | .tuple xs, h => by
    obtain ⟨h1, h2⟩ := fitAll_ok hM (xs := xs) (by simpa only [fit] using h)
    simp only [PyData.showable, PyData.shown, wt]
    refine ⟨h1, ?_⟩
    have e := tupleText_len_le (PyData.shownAll xs)
    omega
  | .dict kvs, h => by simp only [fit] at h; simp only [wt]; exact ⟨h.2, h.1⟩
theorem fitAll_ok {M : Nat} (hM : M < 10 ^ 35) : ∀ {xs : List PyData}, fitAll M xs → PyData.showableAll xs = true ∧ ((PyData.shownAll xs).map (·.length)).sum + 2 * (PyData.shownAll xs).length ≤ wtAll xs
  | [], _ => by simp [PyData.showableAll, PyData.shownAll, wtAll]
  | x :: xs, h => by
    have h' : fit M x ∧ fitAll M xs := by simpa only [fitAll] using h
    obtain ⟨a1, a2⟩ := fit_ok hM h'.1
    obtain ⟨b1, b2⟩ := fitAll_ok hM h'.2
    refine ⟨by simp [PyData.showableAll, a1, b1], ?_⟩
    simp only [PyData.shownAll, List.map_cons, List.sum_cons, List.length_cons, wtAll]
    omega
end
mutual
theorem fit_mono {M M' : Nat} (h : M ≤ M') : ∀ {d : PyData}, fit M d → fit M' d
  | .none, _ => by simp [fit]
  | .bool _, _ => by simp [fit]
  | .int i, q => by simp only [fit] at *; omega
  | .str x, q => by simpa only [fit] using q
  | .list xs, q => by simp only [fit] at *; exact fitAll_mono h q
  | .tuple xs, q => by simp only [fit] at *; exact fitAll_mono h q
  | .dict _, q => by simpa only [fit] using q
theorem fitAll_mono {M M' : Nat} (h : M ≤ M') : ∀ {xs : List PyData}, fitAll M xs → fitAll M' xs
  | [], _ => by simp [fitAll]
  | x :: xs, q => by
    have q' : fit M x ∧ fitAll M xs := by simpa only [fitAll] using q
    simp only [fitAll]
    exact ⟨fit_mono h q'.1, fitAll_mono h q'.2⟩
end
theorem fitAll_iff {M : Nat} : ∀ {xs : List PyData}, fitAll M xs ↔ ∀ x ∈ xs, fit M x
  | [] => by simp [fitAll]
  | x :: xs => by simp [fitAll, fitAll_iff (xs := xs)]
theorem wtAll_app : ∀ (xs ys : List PyData), wtAll (xs ++ ys) = wtAll xs + wtAll ys
  | [], ys => by simp [wtAll]
  | x :: xs, ys => by simp only [List.cons_append, wtAll, wtAll_app xs ys]; omega
theorem wtAll_rev : ∀ xs : List PyData, wtAll xs.reverse = wtAll xs
  | [] => rfl
  | x :: xs => by rw [List.reverse_cons, wtAll_app, wtAll_rev xs]; simp only [wtAll]; omega
theorem wtAll_split (xs : List PyData) (n : Nat) : wtAll xs = wtAll (xs.take n) + wtAll (xs.drop n) := by rw [← wtAll_app, List.take_append_drop]
theorem wtAll_len : ∀ xs : List PyData, 2 * xs.length ≤ wtAll xs
  | [] => by simp [wtAll]
  | x :: xs => by have := wtAll_len xs; simp only [wtAll, List.length_cons]; omega
theorem depthAll_le {k : Nat} : ∀ {xs : List PyData}, PyData.depthAll xs ≤ k ↔ ∀ x ∈ xs, x.depth ≤ k
  | [] => by simp [PyData.depthAll]
  | x :: xs => by
    have := depthAll_le (k := k) (xs := xs)
    simp only [PyData.depthAll, List.mem_cons, forall_eq_or_imp, ← this]
    omega
structure Fit (M k W : Nat) (d : PyData) : Prop where
  ok : fit M d
  dp : d.depth ≤ k
  wt : wt d ≤ W
theorem Fit.mono {M M' k k' W W' : Nat} {d : PyData} (h : Fit M k W d) (h1 : M ≤ M') (h2 : k ≤ k') (h3 : W ≤ W') : Fit M' k' W' d := ⟨fit_mono h1 h.ok, Nat.le_trans h.dp h2, Nat.le_trans h.wt h3⟩
theorem Fit.at {M k W : Nat} {ds : List PyData} {d : PyData} (h : Fit M k W (.tuple ds)) (hm : d ∈ ds) : Fit M (k - 1) W d ∧ d.depth + 1 ≤ (PyData.tuple ds).depth ∧ 1 ≤ k := by
  have h1 : fitAll M ds := by have := h.ok; simpa only [fit] using this
  have h2 := h.dp
  simp only [PyData.depth] at h2
  have h3 : ∀ x ∈ ds, x.depth ≤ PyData.depthAll ds := depthAll_le.mp (Nat.le_refl _)
  have h4 := h3 d hm
  refine ⟨⟨fitAll_iff.mp h1 d hm, by omega, ?_⟩, by simp only [PyData.depth]; omega, by omega⟩
  obtain ⟨a, b, rfl⟩ := List.append_of_mem hm
  have h5 := h.wt
  simp only [Pv.wt, wtAll_app, wtAll] at h5
  omega
/-- a tuple made of parts -/
theorem Fit.tup {M k W : Nat} {ds : List PyData} (h1 : ∀ d ∈ ds, fit M d ∧ d.depth + 1 ≤ k) (h0 : 1 ≤ k) (h2 : wtAll ds + 3 ≤ W) : Fit M k W (.tuple ds) := by
  refine ⟨by simp only [fit]; exact fitAll_iff.mpr fun d hd => (h1 d hd).1, ?_, by simpa only [Pv.wt] using h2⟩
  simp only [PyData.depth]
  have : PyData.depthAll ds ≤ k - 1 := depthAll_le.mpr fun d hd => by have := (h1 d hd).2; omega
  omega
theorem Fit.lst {M k W : Nat} {ds : List PyData} (h1 : ∀ d ∈ ds, fit M d ∧ d.depth + 1 ≤ k) (h0 : 1 ≤ k) (h2 : wtAll ds + 3 ≤ W) : Fit M k W (.list ds) := by
  refine ⟨by simp only [fit]; exact fitAll_iff.mpr fun d hd => (h1 d hd).1, ?_, by simpa only [Pv.wt] using h2⟩
  simp only [PyData.depth]
  have : PyData.depthAll ds ≤ k - 1 := depthAll_le.mpr fun d hd => by have := (h1 d hd).2; omega
  omega
theorem Fit.parts {M k W : Nat} {ds : List PyData} (h : Fit M k W (.tuple ds)) : (∀ d ∈ ds, fit M d ∧ d.depth + 1 ≤ k) ∧ 1 ≤ k ∧ wtAll ds + 3 ≤ W := by
  have h0 : 1 ≤ k := by have := h.dp; simp only [PyData.depth] at this; omega
  refine ⟨fun d hd => ⟨(h.at hd).1.ok, ?_⟩, h0, by have := h.wt; simpa only [Pv.wt] using this⟩
  have := (h.at hd).1.dp
  omega
theorem Fit.int {M k W : Nat} {i : Int} (h : i.natAbs ≤ M) (hW : 40 ≤ W) : Fit M k W (.int i) := ⟨by simpa only [fit] using h, by simp [PyData.depth], by simpa only [Pv.wt] using hW⟩
/-- what is shown together -/
theorem fit_pair {M : Nat} (hM : M < 10 ^ 35) {k W : Nat} {a b : PyData} (ha : Fit M k W a) (hb : Fit M k W b) (hk : k ≤ 50) (hW : W ≤ 1000000) :
    (PyData.list [a, b]).showable = true ∧ (PyData.list [a, b]).depth ≤ 60 ∧ (PyData.list [a, b]).shown.length ≤ sizeLine := by
  have h : Fit M (k + 1) (2 * W + 10) (.list [a, b]) := by
    refine Fit.lst ?_ (by omega) ?_
    · intro d hd
      rcases List.mem_cons.mp hd with rfl | hd
      · exact ⟨ha.ok, by have := ha.dp; omega⟩
      · rcases List.mem_cons.mp hd with rfl | hd
        · exact ⟨hb.ok, by have := hb.dp; omega⟩
        · cases hd
    · have h1 := ha.wt
      have h2 := hb.wt
      simp only [wtAll]; omega
  obtain ⟨s1, s2⟩ := fit_ok hM h.ok
  refine ⟨s1, Nat.le_trans h.dp (by omega), Nat.le_trans s2 (Nat.le_trans h.wt ?_)⟩
  rw [sizeLine_eq]; omega
/-! the data of instances and assignments -/
theorem fit_dI {M : Nat} {ns : List Int} (h : ∀ i ∈ ns, i.natAbs ≤ M) : Fit M 1 (ns.length * 42 + 3) (dI ns) := by
  have hw : wtAll (ns.map PyData.int) = ns.length * 42 := by
    clear h
    induction ns with
    | nil => rfl
    | cons a ns ih => simp only [List.map_cons, wtAll, wt, ih, List.length_cons]; omega
  refine Fit.tup ?_ (by decide) (by rw [hw]; exact Nat.le_refl _)
  intro d hd
  obtain ⟨i, hi, rfl⟩ := List.mem_map.mp hd
  exact ⟨by simpa only [fit] using h i hi, by simp [PyData.depth]⟩
theorem wtAll_le {W : Nat} : ∀ {ds : List PyData}, (∀ d ∈ ds, wt d ≤ W) → wtAll ds ≤ ds.length * (W + 2)
  | [], _ => by simp [wtAll]
  | d :: ds, h => by
    have h1 := h d (by simp)
    have h2 := wtAll_le (W := W) (ds := ds) (fun x hx => h x (by simp [hx]))
    simp only [wtAll, List.length_cons, Nat.succ_mul]; omega
theorem fit_dAsg {M : Nat} {rows : List (List Int)} (h : ∀ row ∈ rows, row.length ≤ 10 ∧ ∀ i ∈ row, i.natAbs ≤ M) (hr : rows.length ≤ 20) : Fit M 2 10000 (dAsg rows) := by
  unfold dAsg
  refine Fit.tup ?_ (by decide) ?_
  · intro d hd
    obtain ⟨row, hrow, rfl⟩ := List.mem_map.mp hd
    have := fit_dI (M := M) (h row hrow).2
    exact ⟨this.ok, by have := this.dp; omega⟩
  · have := wtAll_le (W := 430) (ds := rows.map dI) (by
      intro d hd
      obtain ⟨row, hrow, rfl⟩ := List.mem_map.mp hd
      have := (fit_dI (M := M) (h row hrow).2).wt
      have := (h row hrow).1
      omega)
    rw [List.length_map] at this
    omega
theorem fit_dInst {M : Nat} {cs : List Int} {gs : List Gp} (hc : cs.length ≤ 10 ∧ ∀ i ∈ cs, i.natAbs ≤ M) (hg : gs.length ≤ 20) (h : ∀ g ∈ gs, g.1.length ≤ 10 ∧ (∀ i ∈ g.1, i.natAbs ≤ M) ∧ g.2.natAbs ≤ M) : Fit M 5 20000 (dInst cs gs) := by
  have f1 := fit_dI hc.2
  have f2 : ∀ g ∈ gs, Fit M 2 600 (dGrp g) := by
    intro g hgm
    have f3 := fit_dI (M := M) (h g hgm).2.1
    have hl := (h g hgm).1
    unfold dGrp
    refine Fit.tup ?_ (by decide) ?_
    · intro d hd
      rcases List.mem_cons.mp hd with rfl | hd
      · exact ⟨f3.ok, by have := f3.dp; omega⟩
      · rcases List.mem_cons.mp hd with rfl | hd
        · exact ⟨by simpa only [fit] using (h g hgm).2.2, by simp [PyData.depth]⟩
        · cases hd
    · have := f3.wt
      simp only [wtAll, Pv.wt]; omega
  have f4 : Fit M 3 13000 (.tuple (gs.map dGrp)) := by
    refine Fit.tup ?_ (by decide) ?_
    · intro d hd
      obtain ⟨g, hgm, rfl⟩ := List.mem_map.mp hd
      exact ⟨(f2 g hgm).ok, by have := (f2 g hgm).dp; omega⟩
    · have := wtAll_le (W := 600) (ds := gs.map dGrp) (by
        intro d hd
        obtain ⟨g, hgm, rfl⟩ := List.mem_map.mp hd
        exact (f2 g hgm).wt)
      rw [List.length_map] at this
      omega
  unfold dInst
  refine Fit.tup ?_ (by decide) ?_
  · intro d hd
    rcases List.mem_cons.mp hd with rfl | hd
    · exact ⟨f1.ok, by have := f1.dp; omega⟩
    · rcases List.mem_cons.mp hd with rfl | hd
      · exact ⟨f4.ok, by have := f4.dp; omega⟩
      · cases hd
  · have h1 := f1.wt
    have h2 := f4.wt
    have := hc.1
    simp only [wtAll]; omega
end Pv

namespace Pv
open PySem PySem.Spec PyProof.Rows L2
/-! errors of the program's own classes -/
abbrev VEbm : List Value := [.type "ValueError", .type "Exception", .type "BaseException", .type "object"]
theorem pmk_own0 {X : Cx} {C : Addr} {bmB : List Value} {B newId initId : String} {x : Str} {p pos : Pos} (F : ExcBaseFacts B newId initId bmB) (q : PySem.W.excIn X.K C bmB newId = true) (gC : X.mg x = some (.ref C))
    (kC : PySem.W.keepIn X.K (.ref C) = true) (r : Raises X (.ref C)) (hg : Gl X x) (hdb : (x == ("__debug__" : Str)) = false := by decide) :
    PMk X (.Call (.Name x p) [] [] pos) (fun _ H Q => Q (.ref C) none H) := by
  intro pins s σ H Q I h
  refine wpAny_Call_Name_kw (ld_glob I hg gC ?_ hdb)
  refine PySem.W.callWith_K0 I.kIn kC ?_
  obtain ⟨bm, N, nm, qn, bs, hdct, sn, sub, ab, col, dd, k0, k1, k2, k3, k5, mN, hC, hN, hni, T⟩ := exc_obj I.kIn q
  show wpAny _ _ (call (.ref C) []) _ _ _
  refine wpAny_call_exc_subT F T hC hN hni (fun h' e hm => ?_) (Nat.zero_le _)
  exact mk_of I hm r h (I.hok.gone hm.new)
/-- what is asked of a class whose errors isinstance is asked of -/
structure IsC (K : PySem.W.Frag) (D : Addr) : Prop where
  cl : (PySem.W.clsIn K D).isSome = true
  hg : PySem.W.findIn K (.ref D) "__getattribute__" = some (some (.builtin "BaseException.__getattribute__"))
  hk : PySem.W.findIn K (.ref D) "__getattr__" = some none
  hs : PySem.W.subIn K (.ref D) (.type "BaseException") = some true
  ty : PySem.W.typeIn K (.ref D) = some (.type "type")
  ha : PySem.W.findIn K (.ref D) "__class__" = some (some (.builtin "object.__class__"))
  hn : PySem.W.specialIn K (.builtin "object.__class__") "__get__" = some (some (.builtin "getset_descriptor.__get__"))
  ht : PySem.W.takesIn K (.builtin "object.__class__") = some true
  hm : PySem.W.mroIn K D (.type "object") = some true
  kp : PySem.W.keepIn K (.ref D) = true
def isCB (K : PySem.W.Frag) (D : Addr) : Bool :=
  (PySem.W.clsIn K D).isSome && (decide (PySem.W.findIn K (.ref D) "__getattribute__" = some (some (.builtin "BaseException.__getattribute__"))) && (decide (PySem.W.findIn K (.ref D) "__getattr__" = some none) &&
  (decide (PySem.W.subIn K (.ref D) (.type "BaseException") = some true) && (decide (PySem.W.typeIn K (.ref D) = some (.type "type")) && (decide (PySem.W.findIn K (.ref D) "__class__" = some (some (.builtin "object.__class__"))) &&
  (decide (PySem.W.specialIn K (.builtin "object.__class__") "__get__" = some (some (.builtin "getset_descriptor.__get__"))) && (decide (PySem.W.takesIn K (.builtin "object.__class__") = some true) &&
  (decide (PySem.W.mroIn K D (.type "object") = some true) && PySem.W.keepIn K (.ref D)))))))))
theorem isCB_ok {K : PySem.W.Frag} {D : Addr} (h : isCB K D = true) : IsC K D := by
  simp only [isCB, Bool.and_eq_true, decide_eq_true_eq] at h
  obtain ⟨h1, h2, h3, h4, h5, h6, h7, h8, h9, h10⟩ := h
  exact ⟨h1, h2, h3, h4, h5, h6, h7, h8, h9, h10⟩
theorem IsC.raises {X : Cx} {D : Addr} (c : IsC X.K D) : Raises X (.ref D) := raises_own c.hs c.ty
/-- isinstance(e, c), e the error that the suite holds, c a class or a tuple of classes -/
def rIsX (K : PySem.W.Frag) (a : Addr) (cls : Value) (d : Option Addr) : RC := fun xs H Q => ∃ (D : Addr) (c : V) (b : Bool), cls = .ref D ∧ IsC K D ∧ (∀ dx, d = some dx → ∃ fs, H dx = some (.xd fs)) ∧ xs = [.ref a, c] ∧
  ((∃ u, ClsV c u ∧ PySem.W.kitOne K (.ref D) u = some b) ∨ ∃ (tp : Addr) (cs : List V) (us : List Value), c = .ref tp ∧ H tp = some (.tup cs) ∧ Paired ClsV cs us ∧ PySem.W.kitAny K (.ref D) us = some b) ∧ Q (.bl b) H
theorem call_isX {X : Cx} {a : Addr} {oe : Obj} {cls : Value} {d : Option Addr} {pn : List (Addr × Obj)} (hz : Zc cls d oe) (hf : ∃ vs, oe.data = .fields vs) : CallR (X.suite a ((a, oe) :: pn)) (.builtin "isinstance") (rIsX X.K a cls d) := by
  intro pins s σ H xs us Q I r h
  obtain ⟨D, c, b, rfl, C, hdx, rfl, hc, q⟩ := h
  obtain ⟨u1, u2, rfl, r1, r2⟩ := vals2 r
  cases (show u1 = Value.ref a from r1)
  obtain ⟨hget, _⟩ := I.pin (a, oe) (List.mem_append.mpr (.inl List.mem_cons_self))
  obtain ⟨vs, hv⟩ := hf
  have J : ∃ od, PySem.W.InstAt s.heap a oe D od := by
    cases d with
    | none =>
      refine ⟨none, hget, hz.1, by unfold PySem.W.notCls; rw [hv] <;> rfl, ?_⟩
      rw [hz.2]; trivial
    | some dx =>
      obtain ⟨fs, e⟩ := hdx dx rfl
      have hx : ObjOk X.prog X.w H s.heap dx (.xd fs) := I.hok dx _ e
      obtain ⟨mA, hns, _⟩ := hx
      obtain ⟨od, ho, _⟩ := lookIn_ns hns
      exact ⟨some od, hget, hz.1, by unfold PySem.W.notCls; rw [hv] <;> rfl, by rw [hz.2]; exact ho⟩
  obtain ⟨od, J⟩ := J
  have Z := PySem.W.kitx_exc (K := X.K) (x := a) (C := D) (ox := oe) (od := od) C.cl C.hg C.hk C.hs C.ha C.hn C.ht C.hm
  rcases hc with ⟨u, ku, e⟩ | ⟨tp, cs, ws, rfl, hT, ks, e⟩
  · have e2 := ku.eq r2
    subst e2
    exact PySem.W.kia_one Z I.kIn J e (fun z => nomatch z) fun tk => ⟨.bl b, H, I.kept (t' := tk) fun _ _ z => z, rfl, q⟩
  · cases (show u2 = Value.ref tp from r2)
    obtain ⟨_, its, rv, o, h1, h2, n, h3⟩ := (show ObjOk X.prog X.w H s.heap tp (.tup cs) from I.hok tp _ hT)
    have e3 := ClsV.all ks rv
    subst e3
    obtain ⟨oc, od', dt, sl⟩ := o
    simp only at h2 h3
    subst h2 h3
    exact PySem.W.kia_tup Z I.kIn J h1 e (fun z => nomatch z) fun tk => ⟨.bl b, H, I.kept (t' := tk) fun _ _ z => z, rfl, q⟩
end Pv

namespace Pv
open PySem PySem.Spec PyProof.Rows L2
/-! an error with one field of its own -/
def inCls (st : Stmt) (i : Nat) : Stmt := match st with
  | .ClassDef _ _ _ body _ _ _ _ _ _ _ => body.getD i (.Pass ⟨0, 0, 0, 0⟩)
  | _ => .Pass ⟨0, 0, 0, 0⟩
def spI1 (C : Addr) (fld : Str) : Sp := fun vs H Q _ => ∃ (a : Addr) (v : V), vs = [.ref a, v] ∧ H a = some (exo a C none) ∧ ∀ dx, H dx = none → dx ≠ a → Q .non (upd (upd H dx (exd dx [(fld, v)])) a (exo a C (some dx)))
theorem mkO1 {C : Addr} {fld : Str} {v : V} {H1 : Hp} {Q : XK} (h : ∀ d, H1 d = none → Q (.ref C) (some d) (upd H1 d (.xd [(fld, v)]))) :
    [v].length ≤ 1000 ∧ ∀ a, H1 a = none → spI1 C fld (.ref a :: ([v] ++ [])) (upd H1 a (exo a C none))
      (fun v' H2 => v' = .non ∧ ∃ (d : Addr) (fs : List (Str × V)), H2 a = some (exo a C (some d)) ∧ H2 d = some (exd d fs) ∧ H1 d = none ∧ Q (.ref C) (some d) (upd (del H2 a) d (.xd fs))) (fun _ _ _ => False) := by
  refine ⟨by simp, fun a na => ⟨a, v, rfl, upd_same, fun dx nd ne => ⟨rfl, dx, [(fld, v)], upd_same, ?_, ?_, ?_⟩⟩⟩
  · rw [upd_ne ne]; exact upd_same
  · rw [upd_ne ne] at nd; exact nd
  · have nd1 : H1 dx = none := by rw [upd_ne ne] at nd; exact nd
    have e : upd (del (upd (upd (upd H1 a (exo a C none)) dx (exd dx [(fld, v)])) a (exo a C (some dx))) a) dx (.xd [(fld, v)]) = upd H1 dx (.xd [(fld, v)]) := by
      funext b
      by_cases hb : b = dx
      · rw [hb, upd_same, upd_same]
      · rw [upd_ne hb, upd_ne hb]
        by_cases ha : b = a
        · rw [ha, del_same, na]
        · rw [del_ne ha, upd_ne ha, upd_ne hb, upd_ne ha]
    rw [e]
    exact h dx nd1
/-- what the written part says of such a class -/
structure XF (K : PySem.W.Frag) (C fI : Addr) (fld : Str) : Prop where
  T : OexC K C
  iC : PySem.W.findIn K (.ref C) "__init__" = some (some (.ref fI))
  tI : PySem.W.typeIn K (.ref fI) = some (.type "function")
  no : PySem.W.findIn K (.ref C) fld = some none
  rd : XfC K C
def xf1B (K : PySem.W.Frag) (C fI : Addr) (fld : Str) : Bool :=
  decide (PySem.W.findIn K (.ref C) "__setattr__" = some (some (.builtin "object.__setattr__"))) && (decide (PySem.W.subIn K (.ref C) (.type "BaseException") = some true) && (decide (PySem.W.typeIn K (.ref C) = some (.type "type")) && (PySem.W.keepIn K (.ref C) &&
  (decide (PySem.W.findIn K (.ref C) "__init__" = some (some (.ref fI))) && (decide (PySem.W.typeIn K (.ref fI) = some (.type "function")) && (decide (PySem.W.findIn K (.ref C) fld = some none) && xfB K C))))))
theorem xf1B_ok {K : PySem.W.Frag} {C fI : Addr} {fld : Str} (h : xf1B K C fI fld = true) (c : ∃ nm q N bs bm sn sub ab col dd k0 k1 k2 k3 k5, K.lookup C = some (excClassObj nm q C N bs bm true sn sub ab col dd k0 k1 k2 k3 k5 "ValueError.__new__") ∧ PySem.HandSPX.refsVE bm = true) : XF K C fI fld := by
  simp only [xf1B, Bool.and_eq_true, decide_eq_true_eq] at h
  obtain ⟨h1, h2, h3, h4, h5, h6, h7, h8⟩ := h
  exact ⟨⟨c, h1, h2, h3, h4⟩, h5, h6, h7, xfB_ok h8⟩
end Pv

namespace Pv
open PySem PySem.Spec PyProof.Rows L2
/-! the same for a class right under LookupError -/
abbrev LEbm : List Value := [.type "LookupError", .type "Exception", .type "BaseException", .type "object"]
structure OeL (K : PySem.W.Frag) (C : Addr) : Prop where
  cls : ∃ nm q N bs sn sub ab col dd k0 k1 k2 k3 k5, K.lookup C = some (excClassObj nm q C N bs LEbm true sn sub ab col dd k0 k1 k2 k3 k5 "LookupError.__new__")
  sa : PySem.W.findIn K (.ref C) "__setattr__" = some (some (.builtin "object.__setattr__"))
  exC : PySem.W.subIn K (.ref C) (.type "BaseException") = some true
  tyC : PySem.W.typeIn K (.ref C) = some (.type "type")
  kC : PySem.W.keepIn K (.ref C) = true
section
open PySem.HandSPX Builtin Builtin.ObjectAttr
variable {prog : Program} {w : World} {A : Around} {R : Result → Shared → Prop} {hp : Heap} {g : Array GenState} {d : Drawn} {t : Nat} {os : OsState}
theorem le_loop (self : Value) (c : Addr) : refuseLoop self "__setattr__" (.ref c :: LEbm) = pure () := (refuseLoop_ref ..).trans (PySem.F.store_LookupError.passes self)
/-- the first field is stored: a dict is laid, and nothing else is touched -/
theorem le_store {K : PySem.W.Frag} {fld : Str} {tk : Tok} {v : Value} {x C : Addr} {fv : Array Value} {cd : ClassData} (X : K.In hp) (hx : hp.get? x = some { cls := .ref C, data := .fields fv }) (hcd : PySem.W.clsIn K C = some cd)
    (hm : cd.mro = .ref C :: LEbm) (hh : cd.hasDict = true) (ha : PySem.W.findIn K (.ref C) fld = some none)
    (fin : ∀ h' tk' dx, (∀ b o, b ≠ x → hp.get? b = some o → h'.get? b = some o) → hp.objs.size ≤ dx → dx ≠ x → h'.get? x = some { cls := .ref C, dict := some dx, data := .fields fv } →
      h'.Ns1 dx (fun y => if y = fld then some v else none) → R (.ok (.ret .none)) ⟨h', g, d, tk', os⟩) :
    codeAny (model prog w) A (.call (.builtin "object.__setattr__") ⟨[.ref x, .str fld tk, v], []⟩) R ⟨hp, g, d, t, os⟩ := by
  have at_x : PySem.W.InstAt hp x { cls := .ref C, data := .fields fv } C none := ⟨hx, rfl, rfl, trivial⟩
  have far : x ≠ hp.objs.size := Nat.ne_of_lt (Heap.lt_size hx)
  have obj : PySem.W.mroIn K C (.type "object") = some true := by
    unfold PySem.W.mroIn
    rw [hcd, Option.bind_some, hm]
    rfl
  have isObj : PySem.W.Looks (model prog w) hp (isInstance (.ref x) (.type "object")) true := at_x.type.andThen (PySem.W.looks_mroIn X obj)
  have facts := PySem.F.store_object
  refine codeAny_call_builtin facts.slot.plain facts.entry (@PySem.W.check_slot (model prog w) _ _ ⟨hp, g, d, t, os⟩ "object.__setattr__" "object" "__setattr__" (.ref x) [.str fld tk, v] [] _ facts.kind facts.split isObj (facts.args (.ref x) (.str fld tk) v) ?_)
  have mros : PySem.W.Looks (model prog w) hp (mroOf (.ref C)) cd.mro := (PySem.W.looks_clsIn X hcd).andThen .now
  have data : PySem.W.Looks (model prog w) hp (classData C) cd := PySem.W.looks_clsIn X hcd
  have taker : PySem.W.Looks (model prog w) hp (storeTaker? none) none := .now
  rw [PySem.W.osa_eq, refuse_eq]
  refine wpAny_bind (wpAny_bind (at_x.type.at (wpAny_bind (mros.at ?_))))
  rw [hm, le_loop]
  refine wpAny_pure (wpAny_bind (at_x.type.at (wpAny_bind ((PySem.W.looks_findIn X ha).at (wpAny_bind (taker.at ?_))))))
  show wpAny _ _ (storeInOwnDict (.ref x) (.ref C) (.str fld tk) fld v false) _ _ _
  obtain ⟨nm, bs, mro, ns, qn, hd, sn, sb, ab, col, del⟩ := cd
  dsimp only at hh
  subst hh
  unfold storeInOwnDict ownDictForStores
  repeat (first | with_reducible refine PySem.HandSPX.store_in_new ?_ ?_ | with_reducible refine wpAny_loadPart_at hx ?_ | with_reducible refine data.at ?_ | wp_step)
  · exact ⟨_, #[], _, (Heap.get?_update_ne _ _ _ _ far.symm).trans (Heap.get?_push_at rfl rfl), rfl, fun e he => absurd he (by simp), fun _ => rfl⟩
  · intro h' tk' hn' hs
    have old : (hp.push { cls := .type "dict", data := .dict #[] }).get? x = some { cls := .ref C, data := .fields fv } := Heap.get?_push_of_some _ hx
    refine fin h' tk' hp.objs.size (fun b o hb ho => ?_) (Nat.le_refl _) far.symm ?_ hn'
    · rw [hs.2 b (Nat.ne_of_lt (Heap.lt_size ho)), Heap.get?_update_ne _ _ _ _ hb]
      exact Heap.get?_push_of_some _ ho
    · rw [hs.2 x far]
      exact Heap.get?_update_self _ old rfl
end
section
variable {X : Cx} {pins : List (Addr × Obj)} {σ : L2.St} {H : Hp} {s : Shared} {a C : Addr} {f : Str} {y : V} {u : Value} {Q : Unit → Shared → Prop} {E : Value → Shared → Prop} {A : Around}
theorem le_put (T : OeL X.K C) (I : Inv X pins σ H s) (e : H a = some (exo a C none)) (hno : PySem.W.findIn X.K (.ref C) f = some none) (ry : RelV y u)
    (fin : ∀ dx s', H dx = none → dx ≠ a → Inv X pins σ (upd (upd H dx (exd dx [(f, y)])) a (exo a C (some dx))) s' → Q () s') : wpAny (model X.prog X.w) A (setAttr (.ref a) f u) Q E s := by
  obtain ⟨nm, qn, N, bs, sn, sub, ab, col, dd, k0, k1, k2, k3, k5, hC⟩ := T.cls
  have hcl : PySem.W.clsIn X.K C = some { name := nm, bases := bs, mro := .ref C :: LEbm, ns := N, qualname := qn, hasDict := true, slotNames := sn, subclasses := sub, abstract := ab, collection := col, hasDel := false } := by
    unfold PySem.W.clsIn
    rw [hC] <;> rfl
  obtain ⟨t1, ho⟩ := exo_at I.hok e
  obtain ⟨hp, g, d, t, os⟩ := s
  refine PySem.W.set_plain I.kIn (ox := { cls := .ref C, dict := none, data := .fields #[.ref t1, .none, .none, .none, .bool false, .none] }) (od := none) ⟨ho, rfl, rfl, trivial⟩ T.sa ?_
  refine le_store I.kIn ho hcl rfl rfl hno (fun h' tk' dx kp big dne hx hns => ?_)
  have free : H dx = none := I.hok.fresh big
  have offD : ∀ {b : Addr} {o : Obj}, hp.get? b = some o → b ≠ dx := fun {b o} z => Nat.ne_of_lt (Nat.lt_of_lt_of_le (Heap.lt_size z) big)
  have offA : ∀ {b : Addr}, H b = none → b ≠ a := fun {b} n z => by rw [z, e] at n; cases n
  have two : ∀ {b : Addr} {o : HO}, H b = some o → exo a C none ≠ o → (upd (upd H dx (exd dx [(f, y)])) a (exo a C (some dx))) b = some o := fun {b o} z ne => by
    rw [upd_ne (at_ne e z ne), upd_ne (ne_of_none z free)]; exact z
  have step : Un X.fs [] H (upd (upd H dx (exd dx [(f, y)])) a (exo a C (some dx))) hp h' :=
    { keep := fun b o z n _ _ => kp b o (offA n) z
      slot := fun b o z n _ _ => ⟨o.slots, kp b o (offA n) z⟩
      free := fun b o z n _ => by rw [upd_ne (offA n), upd_ne (offD z)]; exact n
      there := fun b o z _ => by
        by_cases hb : b = a
        · subst hb; exact ⟨_, hx⟩
        · exact ⟨o, kp b o hb z⟩
      tups := fun b xs z => two z exo_tup
      frzs := fun b o v z => two z exo_frz
      tbls := fun b ps z => ⟨#[], by rw [two z exo_tbl]; simp⟩ }
  refine fin dx _ free dne (I.un (t' := tk') step fun b o z => ?_)
  by_cases hb : b = a
  · subst hb
    rw [upd_same] at z
    cases z
    exact exo_ok hx
  · rw [upd_ne hb] at z
    by_cases hd : b = dx
    · subst hd
      rw [upd_same] at z
      cases z
      exact exd_ok hns (relO_put (fs := []) ry fun _ => True.intro)
    · rw [upd_ne hd] at z
      refine (I.hok b o z).stay (fun c v hc zz => kp c v ?_ zz) (fun c hc => two hc exo_own) (fun c xs hc => two hc exo_tup)
      rcases hc with hc | hc
      · rw [hc]; exact hb
      · exact at_ne e hc exo_own
end
def tOstL (K : PySem.W.Frag) (f : Str) (to te : TE) : TS := fun D σ H => te σ H fun y H1 => to σ H1 fun x H2 => ∃ a C : Addr, x = .ref a ∧ OeL K C ∧ PySem.W.findIn K (.ref C) f = some none ∧ H2 a = some (exo a C none) ∧
  ∀ dx, H2 dx = none → dx ≠ a → D.nx σ (upd (upd H2 dx (exd dx [(f, y)])) a (exo a C (some dx)))
section
variable {X : Cx} {o e : Expr} {es : List Expr} {to te : TE} {ta : TA} {f x : Str} {p p' pos : Pos}
theorem ps_ostL (ho : PE X o to) (he : PE X e te) (hs : swapsWith e (some (.Attribute o f p')) pos.line X.env = pure false := by rfl) : PS X (.Assign [.Attribute o f p'] e pos) (tOstL X.K f to te) := by
  refine ⟨fun pins s σ H D I h => plainObj_wpAny_Assign_Attribute (thn (he.run pins s σ H _ I h) fun v s1 r1 => ?_) hs⟩
  obtain ⟨y, H1, I1, ry, q1⟩ := r1
  refine thn (ho.run pins s1 σ H1 _ I1 q1) fun u s2 r2 => ?_
  obtain ⟨z, H2, I2, rz, a, C, ez, T, hno, ea, q⟩ := r2
  subst ez
  cases (show u = Value.ref a from rz)
  exact le_put T I2 ea hno ry fun dx s' n ne J => ⟨σ, _, J, q dx n ne⟩
theorem pmk_le {C fI : Addr} {k : Nat} {fd : FuncData} {ps : List Str} {sp : Sp} (T : OeL X.K C) (iC : PySem.W.findIn X.K (.ref C) "__init__" = some (some (.ref fI))) (tI : PySem.W.typeIn X.K (.ref fI) = some (.type "function"))
    (F1 : FnOk X.prog X.w X.K X.mg X.base CX0 k fI fd ps sp) (hr : Room (k + 1) X.A) (hb : Binds X.K fd ps []) (hg : Gl X x) (hm : X.mg x = some (.ref C)) (ha : PA X (e :: es) ta)
    (hdb : (x == ("__debug__" : Str)) = false := by decide) (he : starEach (e :: es) X.env = (false, eval e X.env) :: starEach es X.env := by rfl) (hpl : (backTo pos (starEach es X.env)).any (·.1) = false := by rfl) :
    PMk X (.Call (.Name x p) (e :: es) [] pos) (tMkO C sp [] ta) := by
  intro pins s σ H Q I h
  obtain ⟨nm, qn, N, bs, sn, sub, ab, col, dd, k0, k1, k2, k3, k5, hC⟩ := T.cls
  refine wpAny_Call_Name_kw (ld_glob I hg hm ?_ hdb)
  refine PySem.W.callWith_K (h₀ := X.base) I.ok.mod.kin T.kC (thn (ha.run pos pins s σ H _ I h) fun us s1 got => ?_) he hpl
  obtain ⟨vs, H1, I1, r1, hz, q1⟩ := got
  refine ⟨I1.kIn, ?_⟩
  show wpAny _ _ (call (.ref C) us) _ _ _
  obtain ⟨hp, g, dr, tk, os⟩ := s1
  have new : H1 (hp.objs.size + 1) = none := I1.hok.fresh (Nat.le_succ _)
  have kk : ∀ b o, hp.get? b = some o → ((hp.push (PySem.W.kdv_tup us)).push (PySem.HandSPX.excO C hp.objs.size)).get? b = some o := fun b o z => Heap.get?_push_of_some _ (Heap.get?_push_of_some _ z)
  have there : ((hp.push (PySem.W.kdv_tup us)).push (PySem.HandSPX.excO C hp.objs.size)).get? (hp.objs.size + 1) = some (PySem.HandSPX.excO C hp.objs.size) := by heap_get
  have I2 : Inv X pins σ (upd H1 (hp.objs.size + 1) (exo (hp.objs.size + 1) C none)) ⟨(hp.push (PySem.W.kdv_tup us)).push (PySem.HandSPX.excO C hp.objs.size), g, dr, tk, os⟩ :=
    I1.laid (t' := tk) (a := hp.objs.size + 1) (o := exo (hp.objs.size + 1) C none) (h' := (hp.push (PySem.W.kdv_tup us)).push (PySem.HandSPX.excO C hp.objs.size)) kk (Nat.le_succ _) (exo_ok there)
  have want := q1 (hp.objs.size + 1) new
  have rel : Vals (V.ref (hp.objs.size + 1) :: (vs ++ [])) (Value.ref (hp.objs.size + 1) :: (us ++ [])) := .cons rfl (r1.append .nil)
  have len : (Value.ref (hp.objs.size + 1) :: us ++ []).length = ps.length := by
    have z := rel.length
    rw [F1.len _ _ _ _ want] at z
    exact z.symm
  have few : us.length ≤ sizeLine := by
    rw [← Paired.length r1, sizeLine_eq]
    omega
  refine wpAny_call (PySem.HandSPX.call_own PySem.F.excBase_LookupError (fun _ => rfl) (I1.kIn _ _ hC) (PySem.W.looks_findIn I1.kIn iC) (fun self => PySem.W.bind_fn I1.kIn self tI) few ?_)
  have bnd := hb _ (Value.ref (hp.objs.size + 1) :: us) I2.kIn len
  rw [List.cons_append] at bnd
  refine codeAny_mono (F1.run _ X.stack _ _ ⟨Value.ref (hp.objs.size + 1) :: us, []⟩ (Value.ref (hp.objs.size + 1) :: (us ++ [])) _ _ (fun _ _ _ => False) (hr.make C us []) (I2.env0.make C us []) bnd rel want) fun rr s' done => ?_
  cases rr with
  | error er => exact done.elim
  | ok fl =>
    cases fl with
    | next => exact done.elim
    | brk => exact done.elim
    | cont => exact done.elim
    | ret u =>
      obtain ⟨v, H2, os2, bare2, un2, hok2, rv, ev, dx, fs, ea, ed, hd1, q2⟩ := done
      subst ev
      obtain ⟨h2, g2, d2, t2, os'⟩ := s'
      exact ⟨rv, mk_end (raises_own T.exC T.tyC) I1 (Nat.le_succ _) kk un2 hok2 os2 bare2 ea ed hd1 q2⟩
end
structure XL (K : PySem.W.Frag) (C fI : Addr) (fld : Str) : Prop where
  T : OeL K C
  iC : PySem.W.findIn K (.ref C) "__init__" = some (some (.ref fI))
  tI : PySem.W.typeIn K (.ref fI) = some (.type "function")
  no : PySem.W.findIn K (.ref C) fld = some none
  rd : XfC K C
theorem xl1B_ok {K : PySem.W.Frag} {C fI : Addr} {fld : Str} (h : xf1B K C fI fld = true) (c : ∃ nm q N bs sn sub ab col dd k0 k1 k2 k3 k5, K.lookup C = some (excClassObj nm q C N bs LEbm true sn sub ab col dd k0 k1 k2 k3 k5 "LookupError.__new__")) : XL K C fI fld := by
  simp only [xf1B, Bool.and_eq_true, decide_eq_true_eq] at h
  obtain ⟨h1, h2, h3, h4, h5, h6, h7, h8⟩ := h
  exact ⟨⟨c, h1, h2, h3, h4⟩, h5, h6, h7, xfB_ok h8⟩
end Pv

namespace Pv
open PySem PySem.Spec PyProof.Rows L2
/-! several clauses, each with a name for the error -/
abbrev Clause := Value × Nat × (Addr → Value → Option Addr → TS)
def endsOf (D : Ends) (i : Nat) : Ends := { nx := fun σ H => D.nx (σ.set i none) H, rt := D.rt, bk := fun σ H => D.bk (σ.set i none) H, ct := fun σ H => D.ct (σ.set i none) H }
def wClauses (K : PySem.W.Frag) (Wout : WX) (D : Ends) : List Clause → WX
  | [] => Wout
  | (c, i, ts) :: r => fun cls d σ H => ∃ b, PySem.W.exmOne K cls c = some b ∧ (b = true → ∀ a, H a = none → ts a cls d (endsOf D i) (σ.set i (some (.ref a))) H) ∧ (b = false → wClauses K Wout D r cls d σ H)
inductive Clauses (X : Cx) : List ExceptHandler → List Clause → Prop
  | nil : Clauses X [] []
  | cons {x n : Str} {c : Value} {i : Nat} {ts : Addr → Value → Option Addr → TS} {b₀ : Stmt} {suite : List Stmt} {np pos' : Pos} {hds : List ExceptHandler} {l : List Clause} (hi : X.N[i]? = some n) (hl : X.env.kindOf n = some .local) (hc : Names X x c)
      (hsu : ∀ (a : Addr) (oe : Obj) (cls : Value) (d : Option Addr) (pn : List (Addr × Obj)), Zc cls d oe → (∃ vs, oe.data = .fields vs) → PSs (X.suite a ((a, oe) :: pn)) (b₀ :: suite) (ts a cls d)) (r : Clauses X hds l) :
      Clauses X (.ExceptHandler (some (.Name x np)) (some n) (b₀ :: suite) pos' :: hds) ((c, i, ts) :: l)
section
variable {X : Cx} {body : List Stmt} {h₀ : ExceptHandler} {hds : List ExceptHandler} {l : List Clause} {pos : Pos} {tb : WX → TS} {Wout : WX}
theorem ps_tries (hs : X.stack = X.env :: X.outer) (hf : X.env.frame = some X.env.locals) (hN : X.N.Nodup) (tk : Takes X Wout)
    (hb : ∀ (W : WX) (pn : List (Addr × Obj)) (xe : Value → Shared → Prop), Takes (X.tr pn xe) W → PassesOwn (model X.prog X.w) X.A X.env xe → PSs (X.tr pn xe) body (tb W))
    (hh : Clauses X (h₀ :: hds) l) : PS X (.Try body (h₀ :: hds) [] [] pos) (fun D σ H => tb (wClauses X.K Wout D l) D σ H) := by
  refine ⟨fun pins s σ H D I h => ?_⟩
  have ok := I.ok
  have frames : X.A.frames = some (X.env :: X.outer) := by rw [ok.frames, hs]
  let after : Value → Shared → Prop := fun e s₁ => wpAny (model X.prog X.w) X.A (noteFrame e X.env) (fun _ s₂ => wpAny (model X.prog X.w) X.A (setFlight e none) (fun _ s₃ =>
    wpAny (model X.prog X.w) X.A (handleBy e X.env (h₀ :: hds)) (SP X pins D) X.xe s₃) X.xe s₂) X.xe s₁
  have caught : Takes (X.tr (X.pn ++ pins) after) (wClauses X.K Wout D l) := by
    intro u s' xx
    obtain ⟨a, B, sI, pins', σ', H', cls, d, rfl, J', nb, up, sky, na, os, ag, want⟩ := xx
    have J : Inv X pins σ' H' sI := J'.ofTry ok
    have sky' : Sky B (X.env :: X.outer) a (Zc cls d) X.env.locals s'.heap := by rw [← hs]; exact sky
    show wpAny (model X.prog X.w) X.A (noteFrame (.ref a) X.env) _ _ _
    refine Sky.land Zc.steady frames hf sky' fun h3 fl3 up3 => ?_
    have J3 : Inv X pins σ' H' { s' with heap := h3 } := J.landed nb fl3.1 (up.trans up3) os ag
    obtain ⟨oe3, vs3, he3, hz3, hd3⟩ := fl3.there
    have off : a ∉ frs (X.env :: X.outer) := fun hm => by
      obtain ⟨_, o', e', hnf⟩ := fl3.2.2.1.mem hm
      rw [he3] at e'
      cases e'
      exact hnf _ hd3
    have offL : a ≠ X.env.locals := fun z => off (List.mem_filterMap.mpr ⟨X.env, List.mem_cons_self, by rw [hf, z]⟩)
    have offF : a ∉ X.fs := fun hm => by
      obtain ⟨e, he, q⟩ := List.mem_filterMap.mp hm
      exact off (List.mem_filterMap.mpr ⟨e, List.mem_cons_of_mem _ he, q⟩)
    have S3 := J3.suite he3 hd3 na offL offF
    have walk : ∀ {hl : List ExceptHandler} {cl : List Clause}, Clauses X hl cl → wClauses X.K Wout D cl cls d σ' H' → wpAny (model X.prog X.w) X.A (handleBy (.ref a) X.env hl) (SP X pins D) X.xe { s' with heap := h3 } := by
      intro hl cl hk
      induction hk with
      | nil =>
        intro want
        refine wpAny_handleBy_nil ?_
        obtain ⟨k1, k2, k3, oe, vs, T, oT, ts', he, hz, hd, h1, hr⟩ := id fl3
        have out : wpAny (model X.prog X.w) X.A (setFlight (.ref a) X.env.frame) (fun _ s4 => wpAny (model X.prog X.w) X.A (throw (.ref a) : Sem Flow) (SP X pins D) X.xe s4) X.xe { s' with heap := h3 } := by
          rw [hf]
          refine HandSPX.setFlight_upZ fl3 fun h4 hh4 up4 => wpAny_throw (tk _ _ ?_)
          exact ⟨a, B, sI, pins, σ', H', cls, d, rfl, J, nb, (up.trans up3).trans up4, .inr (.inr (by rw [hs]; exact hh4)), na, os, ag, want⟩
        unfold PySem.passOn
        refine wpAny_bind (wpAny_field he hd h1 ?_)
        rw [if_neg (show ¬ ((Value.ref T == Value.none) = true) from by simp)]
        first
          | exact wpAny_bind out
          | exact wpAny_bind (wpAny_pure (wpAny_bind out))
      | @cons x n c i ts b₀ suite np pos' hds2 l2 hi hl hc hsu r ih =>
        intro want
        obtain ⟨b, hb1, yes, no⟩ := want
        refine wpAny_handleBy_cons (codeAny_handlers_test ?_) (by intro q; cases q)
        have ty : PySem.W.Looks (model X.prog X.w) h3 (typeOf (.ref a)) cls := fun A Q E s k q => wpAny_typeOf_ref (k _ _ he3) (by rw [hz3.1]; exact q)
        have meets := PySem.W.exm_one (M := model X.prog X.w) (J3.kIn) ty hb1
        have named : ∀ {Q : Value → Shared → Prop} {E : Value → Shared → Prop}, Q c { s' with heap := h3 } → wpAny (model X.prog X.w) (X.A.mark (some (.ref a))) (eval (.Name x np) X.env) Q E { s' with heap := h3 } := fun {Q E} q => by
          obtain ⟨hg, hdbg, hm | ⟨hm, hv, hnn⟩⟩ := hc
          · exact ld_glob (X := X.suite a ((a, oe3) :: (X.pn ++ pins))) S3 hg hm q hdbg
          · exact ld_blt (X := X.suite a ((a, oe3) :: (X.pn ++ pins))) S3 hg hm hv q hnn hdbg
        refine named (meets.here ?_)
        cases b with
        | false =>
          show wpAny _ X.A (handleBy (.ref a) X.env hds2) _ _ _
          exact ih (no rfl)
        | true =>
          refine codeAny_handlers_suite_as ?_
          refine HandSPX.lands_againZ fl3 fun h4 fl4 up4 => ?_
          have J4 : Inv X pins σ' H' { s' with heap := h4 } := J.landed nb fl4.1 ((up.trans up3).trans up4) os ag
          obtain ⟨oe4, vs4, he4, hz4, hd4⟩ := fl4.there
          have S4 := J4.suite he4 hd4 na offL offF
          refine store_ok (X := X.suite a ((a, oe4) :: (X.pn ++ pins))) (v := .ref a) S4 hN hi (.inl hl) rfl (fun s5 S5 => ?_) (.inr hl)
          refine wpAny_mono ((hsu a oe4 cls d (X.pn ++ pins) hz4 ⟨_, hd4⟩).run [] s5 _ H' _ S5 (yes rfl a na)) (fun fl s6 done => ?_) (fun _ _ z => False.elim z)
          have unname : ∀ {σ6 : L2.St} {H6 : Hp} {Q : Shared → Prop}, Inv (X.suite a ((a, oe4) :: (X.pn ++ pins))) [] σ6 H6 s6 → (∀ s7, Inv X pins (σ6.set i none) H6 s7 → Q s7) →
              wpAny (model X.prog X.w) X.A (do bindName X.env n .none; unbindBehindTheSuite X.env n pos') (fun _ s7 => Q s7) X.xe s6 := fun {σ6 H6 Q} S6 hq => gone_ok (S6.unsuite ok) hN hi hl hq
          cases fl with
          | next => obtain ⟨σ6, H6, S6, q6⟩ := done; exact unname S6 fun s7 J7 => ⟨_, _, J7, q6⟩
          | brk => obtain ⟨σ6, H6, S6, q6⟩ := done; exact unname S6 fun s7 J7 => ⟨_, _, J7, q6⟩
          | cont => obtain ⟨σ6, H6, S6, q6⟩ := done; exact unname S6 fun s7 J7 => ⟨_, _, J7, q6⟩
          | ret u => obtain ⟨v6, σ6, H6, S6, r6, q6⟩ := done; exact unname S6 fun s7 J7 => ⟨_, _, _, J7, r6, q6⟩
    exact walk hh want
  refine wpAny_Try_except (wpAny_mono ((hb _ (X.pn ++ pins) after caught PassesOwn.looking).run [] s σ H D (I.toTry _) h) (fun fl s1 done => ?_) (fun e s1 he => he))
  cases fl with
  | next => obtain ⟨σ', H', J', q⟩ := done; exact wpAny_execs_nil ⟨σ', H', J'.ofTry ok, q⟩
  | brk => obtain ⟨σ', H', J', q⟩ := done; exact ⟨σ', H', J'.ofTry ok, q⟩
  | cont => obtain ⟨σ', H', J', q⟩ := done; exact ⟨σ', H', J'.ofTry ok, q⟩
  | ret u => obtain ⟨v, σ', H', J', r, q⟩ := done; exact ⟨v, σ', H', J'.ofTry ok, r, q⟩
end
/-! a call of one of several defs, whichever the expression hands out -/
structure Callee (P : Program) (w : World) (K : PySem.W.Frag) (mg : Str → Option Value) (base : Heap) (CX : CXT) (k : Nat) (f : Addr) (sp : Sp) : Prop where
  ok : ∃ fd ps, FnOk P w K mg base CX k f fd ps sp ∧ Binds K fd ps []
  kp : PySem.W.keepIn K (.ref f) = true
def tCallV (tbl : List (Addr × Sp)) (E : L2.St → XK) (tf : TE) (t : TA) : TE := fun σ H Q => tf σ H fun x H1 => ∃ (f : Addr) (sp : Sp), (f, sp) ∈ tbl ∧ x = .ref f ∧ t σ H1 fun vs H2 => sp vs H2 Q (E σ)
theorem pe_callV {X : Cx} {CX : CXT} {k : Nat} {tbl : List (Addr × Sp)} {E : L2.St → XK} {fe e : Expr} {es : List Expr} {pos : Pos} {tf : TE} {t : TA} (hT : ∀ q ∈ tbl, Callee X.prog X.w X.K X.mg X.base CX k q.1 q.2) (hr : Room k X.A) (hx : ∀ σ, PassesAt CX X σ (E σ))
    (hf : PE X fe tf) (ha : PA X (e :: es) t)
    (ht : eval (.Call fe (e :: es) [] pos) X.env = (do callWith pos (← eval fe X.env) [] (backTo pos (starEach (e :: es) X.env)) (backToKw pos (keywordEach [] X.env))) := by rfl)
    (he : starEach (e :: es) X.env = (false, eval e X.env) :: starEach es X.env := by rfl) (hpl : (backTo pos (starEach es X.env)).any (·.1) = false := by rfl) :
    PE X (.Call fe (e :: es) [] pos) (tCallV tbl E tf t) := by
  refine ⟨fun pins s σ H Q I h => PyProof.Rows.Call_ (thn (hf.run pins s σ H _ I h) fun u s1 got => ?_) ht⟩
  obtain ⟨x, H1, I1, rx, f, sp, hm, ex, q1⟩ := got
  subst ex
  cases (show u = Value.ref f from rx)
  obtain ⟨⟨fd, ps, F, hb⟩, hk⟩ := hT _ hm
  refine PySem.W.callWith_K (h₀ := X.base) I1.ok.mod.kin hk (thn (ha.run pos pins s1 σ H1 _ I1 q1) fun us s2 got2 => ?_) he hpl
  obtain ⟨vs, H2, I2, r2, q2⟩ := got2
  exact ⟨I2.kIn, run_fnS F hr hb (hx σ) I2 r2 q2⟩
end Pv

namespace Pv
open PySem PySem.Spec PyProof.Rows L2
/-! an error with two fields of its own -/
def spI2 (C : Addr) (f1 f2 : Str) : Sp := fun vs H Q _ => ∃ (a : Addr) (v w : V), vs = [.ref a, v, w] ∧ H a = some (exo a C none) ∧ ∀ dx, H dx = none → dx ≠ a → Q .non (upd (upd H dx (exd dx [(f2, w), (f1, v)])) a (exo a C (some dx)))
theorem mkO2 {C : Addr} {f1 f2 : Str} {v w : V} {H1 : Hp} {Q : XK} (h : ∀ d, H1 d = none → Q (.ref C) (some d) (upd H1 d (.xd [(f2, w), (f1, v)]))) :
    [v, w].length ≤ 1000 ∧ ∀ a, H1 a = none → spI2 C f1 f2 (.ref a :: ([v, w] ++ [])) (upd H1 a (exo a C none))
      (fun v' H2 => v' = .non ∧ ∃ (d : Addr) (fs : List (Str × V)), H2 a = some (exo a C (some d)) ∧ H2 d = some (exd d fs) ∧ H1 d = none ∧ Q (.ref C) (some d) (upd (del H2 a) d (.xd fs))) (fun _ _ _ => False) := by
  refine ⟨by simp, fun a na => ⟨a, v, w, rfl, upd_same, fun dx nd ne => ⟨rfl, dx, [(f2, w), (f1, v)], upd_same, ?_, ?_, ?_⟩⟩⟩
  · rw [upd_ne ne]; exact upd_same
  · rw [upd_ne ne] at nd; exact nd
  · have nd1 : H1 dx = none := by rw [upd_ne ne] at nd; exact nd
    have e : upd (del (upd (upd (upd H1 a (exo a C none)) dx (exd dx [(f2, w), (f1, v)])) a (exo a C (some dx))) a) dx (.xd [(f2, w), (f1, v)]) = upd H1 dx (.xd [(f2, w), (f1, v)]) := by
      funext b
      by_cases hb : b = dx
      · rw [hb, upd_same, upd_same]
      · rw [upd_ne hb, upd_ne hb]
        by_cases ha : b = a
        · rw [ha, del_same, na]
        · rw [del_ne ha, upd_ne ha, upd_ne hb, upd_ne ha]
    rw [e]
    exact h dx nd1
structure XF2 (K : PySem.W.Frag) (C fI : Addr) (f1 f2 : Str) : Prop where
  T : OexC K C
  iC : PySem.W.findIn K (.ref C) "__init__" = some (some (.ref fI))
  tI : PySem.W.typeIn K (.ref fI) = some (.type "function")
  no1 : PySem.W.findIn K (.ref C) f1 = some none
  no2 : PySem.W.findIn K (.ref C) f2 = some none
  rd : XfC K C
def xf2B (K : PySem.W.Frag) (C fI : Addr) (f1 f2 : Str) : Bool := xf1B K C fI f1 && decide (PySem.W.findIn K (.ref C) f2 = some none)
theorem xf2B_ok {K : PySem.W.Frag} {C fI : Addr} {f1 f2 : Str} (h : xf2B K C fI f1 f2 = true) (c : ∃ nm q N bs bm sn sub ab col dd k0 k1 k2 k3 k5, K.lookup C = some (excClassObj nm q C N bs bm true sn sub ab col dd k0 k1 k2 k3 k5 "ValueError.__new__") ∧ PySem.HandSPX.refsVE bm = true) : XF2 K C fI f1 f2 := by
  simp only [xf2B, Bool.and_eq_true, decide_eq_true_eq] at h
  have x := xf1B_ok h.1 c
  exact ⟨x.T, x.iC, x.tI, x.no, h.2, x.rd⟩
end Pv

namespace Pv
open PySem PySem.Spec PyProof.Rows L2
theorem seq_with {t u : TS} {D : Ends} {σ : L2.St} {H : Hp} (Pre : L2.St → Hp → Prop) (rest : ∀ σ1 H1, Pre σ1 H1 → u D σ1 H1) (main : (∀ σ1 H1, Pre σ1 H1 → u D σ1 H1) → tSeq t u D σ H) : tSeq t u D σ H := main rest
theorem perm_erase : ∀ (l : List Int) (k : Nat) (h : k < l.length), (l[k] :: l.eraseIdx k).Perm l
  | [], _, h => by simp at h
  | a :: l, 0, _ => by simp
  | a :: l, k + 1, h => by
    have ih := perm_erase l k (by simpa using h)
    simp only [List.getElem_cons_succ, List.eraseIdx_cons_succ]
    exact (List.Perm.swap _ _ _).trans (List.Perm.cons _ ih)
theorem nodup_step {ms l : List Int} {k : Nat} (h : k < l.length) (hn : (ms ++ l).Nodup) : ((ms ++ [l[k]]) ++ l.eraseIdx k).Nodup := by
  rw [List.append_assoc]
  exact (List.Perm.append_left ms (perm_erase l k h)).symm.nodup hn
theorem upTo_nodup (n : Nat) : (upTo n).Nodup := by
  unfold upTo
  show List.Pairwise _ _
  rw [List.pairwise_map]
  exact List.Pairwise.imp (fun h hab => h (Int.ofNat.inj hab)) (List.nodup_range (n := n))
def wholeD (d : PyData) : Bool := isInt d && !isBool d
def withinD (a b : Int) : PyData → Bool
  | .int i => decide (a ≤ i ∧ i ≤ b)
  | _ => false
def tupOfD (a b : Int) : PyData → Bool
  | .tuple ds => decide (a ≤ (ds.length : Int) ∧ (ds.length : Int) ≤ b)
  | _ => false
def intsAll : List PyData → Option (List Int)
  | [] => some []
  | .int i :: r => (intsAll r).map (i :: ·)
  | _ :: _ => none
def intsOf : PyData → Option (List Int)
  | .tuple ds => intsAll ds
  | _ => none
theorem intsAll_ints : ∀ row : List Int, intsAll (row.map PyData.int) = some row
  | [] => rfl
  | i :: r => by simp [intsAll, intsAll_ints r]
theorem intsAll_eq : ∀ {ds : List PyData} {row : List Int}, intsAll ds = some row → ds = row.map PyData.int
  | [], row, h => by simp [intsAll] at h; subst h; rfl
  | d :: ds, row, h => by
    cases d <;> simp [intsAll] at h
    obtain ⟨r, h1, rfl⟩ := h
    rw [intsAll_eq h1]; rfl
theorem within_ints : ∀ {ds : List PyData} {a b : Int}, ds.all (withinD a b) = true → ∃ row : List Int, ds = row.map PyData.int ∧ row.all (fun x => decide (a ≤ x ∧ x ≤ b)) = true
  | [], _, _, _ => ⟨[], rfl, rfl⟩
  | d :: ds, a, b, h => by
    rw [List.all_cons, Bool.and_eq_true] at h
    obtain ⟨row, e, h2⟩ := within_ints h.2
    cases d with
    | int i => exact ⟨i :: row, by rw [e]; rfl, by rw [List.all_cons, Bool.and_eq_true]; exact ⟨h.1, h2⟩⟩
    | _ => simp [withinD] at h
def optV (ps : List Int) (k : Nat) : V := match ps[k]? with | some p => .int p | none => .non
def dAdd (ls : List Int) (g : Gp) : List Int := match g.1 with | [] => ls | p :: _ => addAt ls p g.2
def demOf (n : Nat) (gs : List Gp) : List Int := gs.foldl dAdd (zeros n)
theorem dAdd_len (ls : List Int) (g : Gp) : (dAdd ls g).length = ls.length := by
  unfold dAdd; split
  · rfl
  · exact addAt_len ..
theorem demOf_len (n : Nat) (gs : List Gp) : (demOf n gs).length = n := by
  unfold demOf
  suffices h : ∀ ls : List Int, (gs.foldl dAdd ls).length = ls.length by rw [h]; simp [zeros]
  intro ls
  induction gs generalizing ls with
  | nil => rfl
  | cons g gs ih => rw [List.foldl_cons, ih, dAdd_len]
theorem demOf_snoc {n : Nat} {gs : List Gp} {i : Nat} {g : Gp} (h : gs[i]? = some g) : demOf n (gs.take (i + 1)) = dAdd (demOf n (gs.take i)) g := by
  unfold demOf
  rw [take_snoc h, List.foldl_append]; rfl
def mx (j : Int) : Int := if j > 0 then j else 0
def excOf (cs ds : List Int) : List Int := (cs.zip ds).map fun q => mx (q.2 - q.1)
def freOf (cs ds : List Int) : List Int := (cs.zip ds).map fun q => mx (q.1 - q.2)
def sel (f : Int → Bool) (ls : List Int) (n : Nat) : List Int := ((List.range n).filter fun i => f (ls.getD i 0)).map fun (i : Nat) => (i : Int)
theorem sel_succ (f : Int → Bool) (ls : List Int) {n : Nat} {x : Int} (h : ls[n]? = some x) : sel f ls (n + 1) = sel f ls n ++ (if f x then [(n : Int)] else []) := by
  unfold sel
  rw [List.range_succ, List.filter_append, List.map_append]
  have e : ls.getD n 0 = x := by rw [List.getD_eq_getElem?_getD, h]; rfl
  simp only [List.filter_cons, List.filter_nil, e]
  cases f x <;> rfl
theorem sel_len (f : Int → Bool) (ls : List Int) (n : Nat) : (sel f ls n).length ≤ n := by
  unfold sel
  rw [List.length_map]
  exact Nat.le_trans (List.length_filter_le ..) (by simp)
def isFree (ps cl : List Int) (k : Nat) : Bool := !(cl.contains (ps.getD k 0))
def resOf (ps cl : List Int) : Nat := ((List.range' 1 (ps.length - 1)).find? (isFree ps cl)).getD ps.length
theorem inV_ints (x : Int) : ∀ cl : List Int, inV (.int x) (cl.map V.int) = cl.contains x
  | [] => rfl
  | c :: cl => by
    show ((c == x) || inV (.int x) (cl.map V.int)) = _
    rw [inV_ints x cl, List.contains_cons]
    congr 1
    exact Bool.beq_comm
theorem flat_ints (cl : List Int) : (cl.map V.int).all flatV = true := by
  induction cl with
  | nil => rfl
  | cons c cl ih => simpa [flatV] using ih
def rDem (cs : List Int) (gs : List Gp) : List Int := demOf cs.length gs
def rExc (cs : List Int) (gs : List Gp) : List Int := excOf cs (rDem cs gs)
def rFre (cs : List Int) (gs : List Gp) : List Int := freOf cs (rDem cs gs)
def rCla (cs : List Int) (gs : List Gp) : List Int := sel (fun x => decide (x = 0)) (rFre cs gs) cs.length
def rCro (cs : List Int) (gs : List Gp) : List Int := sel (fun x => decide (0 < x)) (rExc cs gs) cs.length
theorem rDem_len (cs : List Int) (gs : List Gp) : (rDem cs gs).length = cs.length := demOf_len ..
theorem rExc_len (cs : List Int) (gs : List Gp) : (rExc cs gs).length = cs.length := by simp [rExc, excOf, rDem_len]
theorem rFre_len (cs : List Int) (gs : List Gp) : (rFre cs gs).length = cs.length := by simp [rFre, freOf, rDem_len]
def oV : Option Int → V
  | some x => .int x
  | none => .non
theorem optV_oV (ps : List Int) (k : Nat) : optV ps k = oV ps[k]? := by unfold optV; cases ps[k]? <;> rfl
def routeOf (cs : List Int) (gs : List Gp) (g : Gp) : Option (Int × Option Int) := match g.1 with
  | [] => none
  | p :: _ => if (rCro cs gs).contains p = true then some (p, g.1[resOf g.1 (rCla cs gs)]?) else none
def RtV (K : PySem.W.Frag) (H : Hp) (v : V) : Option (Int × Option Int) → Prop
  | none => v = .non
  | some r => ∃ T, v = .ref T ∧ SqT K H T [.int r.1, oV r.2]
def RtAll (K : PySem.W.Frag) (H : Hp) (vs : List V) (rs : List (Option (Int × Option Int))) : Prop := vs.length = rs.length ∧ ∀ (j : Nat) (v : V) (r : Option (Int × Option Int)), vs[j]? = some v → rs[j]? = some r → RtV K H v r
theorem RtV.tk {K : PySem.W.Frag} {H H' : Hp} {v : V} {r : Option (Int × Option Int)} (h : RtV K H v r) (s : TupK H H') : RtV K H' v r := by
  cases r with
  | none => exact h
  | some r => obtain ⟨T, e, h⟩ := h; exact ⟨T, e, s.sq h⟩
theorem RtAll.tk {K : PySem.W.Frag} {H H' : Hp} {vs : List V} {rs : List (Option (Int × Option Int))} (h : RtAll K H vs rs) (s : TupK H H') : RtAll K H' vs rs := ⟨h.1, fun j v r h1 h2 => (h.2 j v r h1 h2).tk s⟩
theorem RtAll.snoc {K : PySem.W.Frag} {H : Hp} {vs : List V} {rs : List (Option (Int × Option Int))} {v : V} {r : Option (Int × Option Int)} (h : RtAll K H vs rs) (hv : RtV K H v r) : RtAll K H (vs ++ [v]) (rs ++ [r]) := by
  refine ⟨by simp [h.1], fun j v' r' h1 h2 => ?_⟩
  by_cases hj : j < vs.length
  · rw [List.getElem?_append_left hj] at h1
    rw [List.getElem?_append_left (by rw [← h.1]; exact hj)] at h2
    exact h.2 j v' r' h1 h2
  · rw [List.getElem?_append_right (by omega)] at h1
    rw [List.getElem?_append_right (by rw [← h.1]; omega)] at h2
    have e : j - vs.length = 0 := by have := (List.getElem?_eq_some_iff.mp h1).1; simp at this; omega
    rw [e] at h1
    rw [← h.1, e] at h2
    simp at h1 h2
    rw [← h1, ← h2]; exact hv
theorem inV_opt (ps cl : List Int) : inV (optV ps 0) (cl.map V.int) = match ps with | [] => false | p :: _ => cl.contains p := by
  cases ps with
  | nil =>
    show inV .non (cl.map V.int) = false
    induction cl with
    | nil => rfl
    | cons c cl ih =>
      have e : eqV (V.int c) V.non = false := rfl
      simp only [List.map_cons, inV] at ih ⊢
      simp [e] at ih ⊢
      exact ih
  | cons p ps => exact inV_ints p cl
theorem resOf_le (ps cl : List Int) : resOf ps cl ≤ ps.length := by
  unfold resOf
  cases e : (List.range' 1 (ps.length - 1)).find? (isFree ps cl) with
  | none => simp
  | some x =>
    have := List.mem_of_find?_eq_some e
    rw [List.mem_range'_1] at this
    simp; omega
theorem iteFF {c : Bool} {A B : Prop} (hc : c = false) (h : B) : if c = true then A else B := by rw [if_neg (by rw [hc]; decide)]; exact h
theorem iteTT {c : Bool} {A B : Prop} (hc : c = true) (h : A) : if c = true then A else B := by rw [if_pos hc]; exact h
theorem eqv_intsL (as bs : List Int) : PyData.eqv (.list (as.map PyData.int)) (.list (bs.map PyData.int)) = decide (as = bs) := by
  have key : ∀ (as bs : List Int), PyData.eqvAll (as.map PyData.int) (bs.map PyData.int) = decide (as = bs) := by
    intro as
    induction as with
    | nil => intro bs; cases bs <;> simp [PyData.eqvAll]
    | cons a as ih =>
      intro bs
      cases bs with
      | nil => simp [PyData.eqvAll]
      | cons b bs =>
        simp only [List.map_cons, PyData.eqvAll, PyData.eqv, ih, List.cons.injEq]
        by_cases h1 : a = b <;> by_cases h2 : as = bs <;> simp [h1, h2]
  rw [PyData.eqv]; exact key as bs
def mvStep (st : List Int × List Int) (z : Option (Int × Option Int) × Int) : List Int × List Int := match z.1 with
  | none => st
  | some r => (addAt st.1 r.1 z.2, match r.2 with | some y => addAt st.2 y z.2 | none => st.2)
def mvOf (n : Nat) (zs : List (Option (Int × Option Int) × Int)) : List Int × List Int := zs.foldl mvStep (zeros n, zeros n)
theorem mvOf_snoc (n : Nat) (zs : List (Option (Int × Option Int) × Int)) (z : Option (Int × Option Int) × Int) : mvOf n (zs ++ [z]) = mvStep (mvOf n zs) z := by simp [mvOf, List.foldl_append]
theorem mvOf_len (n : Nat) (zs : List (Option (Int × Option Int) × Int)) : (mvOf n zs).1.length = n ∧ (mvOf n zs).2.length = n := by
  have : ∀ (zs : List (Option (Int × Option Int) × Int)) (s : List Int × List Int), s.1.length = n → s.2.length = n → (zs.foldl mvStep s).1.length = n ∧ (zs.foldl mvStep s).2.length = n := by
    intro zs
    induction zs with
    | nil => intro s h1 h2; exact ⟨h1, h2⟩
    | cons z zs ih =>
      intro s h1 h2
      refine ih _ ?_ ?_
      · unfold mvStep; split
        · exact h1
        · simp only [addAt_len]; exact h1
      · unfold mvStep; split
        · exact h2
        · simp only; split
          · rw [addAt_len]; exact h2
          · exact h2
  exact this zs _ (by simp [zeros]) (by simp [zeros])
def zsOf (cs : List Int) (gs : List Gp) (xs : List Int) : List (Option (Int × Option Int) × Int) := (gs.map (routeOf cs gs)).zip xs
def goodZ (z : Option (Int × Option Int) × Int) : Bool := z.1.isSome || decide (z.2 = 0)
def meetsD (cs : List Int) (gs : List Gp) (xs : List Int) : Bool := (zsOf cs gs xs).all goodZ && decide ((mvOf cs.length (zsOf cs gs xs)).1 = rExc cs gs) && ((mvOf cs.length (zsOf cs gs xs)).2.zip (rFre cs gs)).all (fun z => decide (z.1 ≤ z.2))
theorem route_in {cs : List Int} {gs : List Gp} (ok : InsOk cs gs) {g : Gp} (hg : g ∈ gs) {r : Int × Option Int} (h : routeOf cs gs g = some r) : (0 ≤ r.1 ∧ r.1 < (cs.length : Int)) ∧ ∀ y, r.2 = some y → 0 ≤ y ∧ y < (cs.length : Int) := by
  have hp := (ok.gp g hg).2.1
  unfold routeOf at h
  cases e : g.1 with
  | nil => rw [e] at h; cases h
  | cons p ps =>
    rw [e] at h
    simp only at h
    split at h
    · cases h
      refine ⟨hp p (by rw [e]; simp), fun y hy => hp y ?_⟩
      rw [e]
      exact List.mem_of_getElem? hy
    · cases h
def intAt : PyData → Int
  | .int i => i
  | _ => 0
def tupIt : PyData → List PyData
  | .tuple ds => ds
  | _ => []
def isVecD (cs : List Int) (gs : List Gp) (d : PyData) : Bool := tupOfD (gs.length : Nat) (gs.length : Nat) d && ((gs.zip (tupIt d)).all (fun z => withinD 0 z.1.2 z.2) && meetsD cs gs ((tupIt d).map intAt))
theorem ints_vals {K : PySem.W.Frag} {st r : Addr} {H : Hp} : ∀ {ds : List PyData} {zs : List V}, (∀ d ∈ ds, ∃ x, d = PyData.int x) → DqAll K st r H zs ds → zs = (ds.map intAt).map V.int
  | [], _, _, h => by cases h; rfl
  | d :: ds, _, hi, h => by
    cases h with
    | cons h1 h2 =>
      obtain ⟨x, rfl⟩ := hi d (by simp)
      cases h1
      rw [ints_vals (fun d hd => hi d (by simp [hd])) h2]
      rfl
theorem sel_has (f : Int → Bool) (ls : List Int) {n k : Nat} (hk : k < n) : (sel f ls n).contains (k : Int) = f (ls.getD k 0) := by
  rw [Bool.eq_iff_iff, List.contains_iff_mem]
  simp only [sel, List.mem_map, List.mem_filter, List.mem_range]
  constructor
  · rintro ⟨a, ⟨h, e⟩, h2⟩
    have : a = k := by omega
    subst this; exact e
  · exact fun h => ⟨k, ⟨hk, h⟩, rfl⟩
theorem fre_at {cs ds : List Int} {p : Nat} (h1 : p < cs.length) (h2 : p < ds.length) : (freOf cs ds).getD p 0 = mx (cs[p] - ds[p]) := by
  unfold freOf
  rw [List.getD_eq_getElem?_getD, List.getElem?_map, (List.getElem?_zip_eq_some.mpr ⟨List.getElem?_eq_getElem h1, List.getElem?_eq_getElem h2⟩ : (cs.zip ds)[p]? = some (cs[p], ds[p]))]
  rfl
theorem exc_at {cs ds : List Int} {p : Nat} (h1 : p < cs.length) (h2 : p < ds.length) : (excOf cs ds).getD p 0 = mx (ds[p] - cs[p]) := by
  unfold excOf
  rw [List.getD_eq_getElem?_getD, List.getElem?_map, (List.getElem?_zip_eq_some.mpr ⟨List.getElem?_eq_getElem h1, List.getElem?_eq_getElem h2⟩ : (cs.zip ds)[p]? = some (cs[p], ds[p]))]
  rfl
theorem cla_has {cs : List Int} {gs : List Gp} {p : Nat} (h : p < cs.length) : (rCla cs gs).contains (p : Int) = decide (cs[p] ≤ (rDem cs gs)[p]'(by rw [rDem_len]; exact h)) := by
  unfold rCla
  rw [sel_has _ _ h]
  unfold rFre
  rw [fre_at h (by rw [rDem_len]; exact h)]
  unfold mx
  rw [decide_eq_decide]
  split <;> omega
theorem cro_has {cs : List Int} {gs : List Gp} {p : Nat} (h : p < cs.length) : (rCro cs gs).contains (p : Int) = decide (cs[p] < (rDem cs gs)[p]'(by rw [rDem_len]; exact h)) := by
  unfold rCro
  rw [sel_has _ _ h]
  unfold rExc
  rw [exc_at h (by rw [rDem_len]; exact h)]
  unfold mx
  rw [decide_eq_decide]
  split <;> omega
theorem zip_turn {α β γ : Type} (f : α × β → γ) : ∀ (as : List α) (bs : List β), (as.zip bs).map f = (bs.zip as).map fun z => f (z.2, z.1)
  | [], bs => by simp
  | a :: as, [] => by simp
  | a :: as, b :: bs => by simp [zip_turn f as bs]
theorem exc_zip (ds cs : List Int) : (ds.zip cs).map (fun z => V.int (mx (z.1 - z.2))) = (excOf cs ds).map V.int := by
  rw [zip_turn]; unfold excOf; rw [List.map_map]; rfl
theorem fre_zip (ds cs : List Int) : (ds.zip cs).map (fun z => V.int (mx (z.2 - z.1))) = (freOf cs ds).map V.int := by
  rw [zip_turn]; unfold freOf; rw [List.map_map]; rfl
theorem res_head {ps cl : List Int} {F : Nat → Option V} (hl : 1 ≤ ps.length) (hF : ∀ k, 1 ≤ k → k < ps.length → F k = if isFree ps cl k = true then some (.int (k : Nat)) else none) (hL : F ps.length = some (.int (ps.length : Nat))) :
    ((List.range' 1 ps.length).filterMap F)[0]? = some (.int (resOf ps cl : Nat)) := by
  obtain ⟨m, hm⟩ : ∃ m, ps.length = m + 1 := ⟨ps.length - 1, by omega⟩
  have e : List.range' 1 ps.length = List.range' 1 m ++ [ps.length] := by rw [hm, List.range'_1_concat, Nat.add_comm 1 m]
  have key : ∀ l : List Nat, (∀ k ∈ l, 1 ≤ k ∧ k < ps.length) → (l.filterMap F ++ [V.int (ps.length : Nat)])[0]? = some (.int (((l.find? (isFree ps cl)).getD ps.length : Nat) : Int)) := by
    intro l
    induction l with
    | nil => intro _; rfl
    | cons k l ih =>
      intro h
      have hk := h k (by simp)
      have := hF k hk.1 hk.2
      by_cases hf : isFree ps cl k = true
      · rw [if_pos hf] at this
        rw [List.filterMap_cons_some this, List.find?_cons_of_pos hf]; rfl
      · rw [if_neg hf] at this
        rw [List.filterMap_cons_none this, List.find?_cons_of_neg hf]
        exact ih fun k hk => h k (by simp [hk])
  rw [e, List.filterMap_append, show List.filterMap F [ps.length] = [V.int (ps.length : Nat)] by simp [hL], key _ (fun k hk => by rw [List.mem_range'_1] at hk; omega)]
  unfold resOf
  rw [hm, Nat.add_sub_cancel]
abbrev Rw := Nat × Int × Option Int × Int
def rowAt (cs : List Int) (gs : List Gp) (j : Nat) (g : Gp) : Option Rw := (routeOf cs gs g).map fun r => (j, r.1, r.2, g.2)
def rowsTo (cs : List Int) (gs : List Gp) (n : Nat) : List Rw := (List.range n).filterMap fun j => gs[j]?.bind (rowAt cs gs j)
theorem rowsTo_succ {cs : List Int} {gs : List Gp} {j : Nat} {g : Gp} (h : gs[j]? = some g) : rowsTo cs gs (j + 1) = rowsTo cs gs j ++ (rowAt cs gs j g).toList := by
  unfold rowsTo
  rw [List.range_succ, List.filterMap_append]
  congr 1
  simp only [List.filterMap_cons, List.filterMap_nil, h, Option.bind_some]
  cases rowAt cs gs j g <;> rfl
theorem rowsTo_len (cs : List Int) (gs : List Gp) (n : Nat) : (rowsTo cs gs n).length ≤ n := by
  unfold rowsTo
  exact Nat.le_trans (List.length_filterMap_le _ _) (by simp)
def RwV (K : PySem.W.Frag) (H : Hp) (v : V) (r : Rw) : Prop := ∃ T, v = .ref T ∧ SqT K H T [.int (r.1 : Nat), .int r.2.1, oV r.2.2.1, .int r.2.2.2]
theorem RwV.tk {K : PySem.W.Frag} {H H' : Hp} {v : V} {r : Rw} (h : RwV K H v r) (s : TupK H H') : RwV K H' v r := by
  obtain ⟨T, e, h⟩ := h; exact ⟨T, e, s.sq h⟩
theorem RwV.same {K : PySem.W.Frag} {H H' : Hp} {v : V} {r : Rw} (h : RwV K H v r) (s : Same H H') : RwV K H' v r := h.tk (.of s)
def subL (a b : List Int) : List Int := List.zipWith (fun x y => x - y) a b
theorem subL_len {a b : List Int} (h : a.length = b.length) : (subL a b).length = a.length := by simp [subL, h]
theorem sub_add {a b : List Int} {p : Nat} {x : Int} (hab : a.length = b.length) (hp : p < (subL a b).length) : subL a (addAt b (p : Int) x) = (subL a b).set p ((subL a b)[p] - x) := by
  have hpb : p < b.length := by rw [subL_len hab] at hp; omega
  unfold addAt
  rw [Int.toNat_natCast]
  apply List.ext_getElem
  · simp [subL, hab]
  · intro n h1 h2
    simp only [subL, List.getElem_zipWith, List.getElem_set]
    by_cases h : p = n
    · subst h; simp [hpb]; omega
    · simp [h]
theorem sub_zero (a : List Int) : subL a (zeros a.length) = a := by
  induction a with
  | nil => rfl
  | cons x a ih => simp [subL, zeros, List.replicate_succ] at ih ⊢; exact ih
theorem sub_eq : ∀ {a b : List Int}, a.length = b.length → ((subL a b).filter (fun x => !decide (x = 0))).isEmpty = decide (b = a)
  | [], [], _ => by simp [subL]
  | [], _ :: _, h => by simp at h
  | _ :: _, [], h => by simp at h
  | x :: a, y :: b, h => by
    have ih := sub_eq (a := a) (b := b) (by simpa using h)
    unfold subL at ih ⊢
    rw [List.zipWith_cons_cons]
    by_cases e : x - y = 0
    · have e2 : y = x := by omega
      rw [List.filter_cons_of_neg (by simp [e]), ih]
      simp [e2]
    · have e2 : ¬ y = x := by omega
      rw [List.filter_cons_of_pos (by simp [e])]
      simp [e2]
theorem sub_le : ∀ {a b : List Int}, a.length = b.length → ((subL a b).filter (fun x => decide (x < 0))).isEmpty = (b.zip a).all (fun z => decide (z.1 ≤ z.2))
  | [], [], _ => by simp [subL]
  | [], _ :: _, h => by simp at h
  | _ :: _, [], h => by simp at h
  | x :: a, y :: b, h => by
    have ih := sub_le (a := a) (b := b) (by simpa using h)
    unfold subL at ih ⊢
    rw [List.zipWith_cons_cons]
    by_cases e : x - y < 0
    · have e2 : ¬ y ≤ x := by omega
      rw [List.filter_cons_of_pos (by simp [e])]
      simp [e2]
    · have e2 : y ≤ x := by omega
      rw [List.filter_cons_of_neg (by simp [e]), ih]
      simp [e2]
def stepR (xs : List Int) (st : List Int × List Int) (r : Rw) : List Int × List Int := mvStep st (some (r.2.1, r.2.2.1), xs.getD r.1 0)
def mvR (n : Nat) (xs : List Int) (rows : List Rw) : List Int × List Int := rows.foldl (stepR xs) (zeros n, zeros n)
theorem mvR_snoc (n : Nat) (xs : List Int) (rows : List Rw) (r : Rw) : mvR n xs (rows ++ [r]) = stepR xs (mvR n xs rows) r := by simp [mvR, List.foldl_append]
theorem mvR_len (n : Nat) (xs : List Int) (rows : List Rw) : (mvR n xs rows).1.length = n ∧ (mvR n xs rows).2.length = n := by
  have : ∀ (rows : List Rw) (s : List Int × List Int), s.1.length = n → s.2.length = n → (rows.foldl (stepR xs) s).1.length = n ∧ (rows.foldl (stepR xs) s).2.length = n := by
    intro rows
    induction rows with
    | nil => intro s h1 h2; exact ⟨h1, h2⟩
    | cons z zs ih =>
      intro s h1 h2
      refine ih _ ?_ ?_
      · simp only [stepR, mvStep, addAt_len]; exact h1
      · simp only [stepR, mvStep]; split
        · rw [addAt_len]; exact h2
        · exact h2
  exact this rows _ (by simp [zeros]) (by simp [zeros])
theorem zs_at {cs : List Int} {gs : List Gp} {xs : List Int} (hl : xs.length = gs.length) {j : Nat} (hj : j < gs.length) : (zsOf cs gs xs)[j]? = some (routeOf cs gs gs[j], xs[j]) := by
  unfold zsOf
  rw [List.getElem?_zip_eq_some]
  exact ⟨by rw [List.getElem?_map, List.getElem?_eq_getElem hj]; rfl, List.getElem?_eq_getElem (by omega)⟩
theorem mvR_all {cs : List Int} {gs : List Gp} {xs : List Int} (hl : xs.length = gs.length) : mvR cs.length xs (rowsTo cs gs gs.length) = mvOf cs.length (zsOf cs gs xs) := by
  have key : ∀ n, n ≤ gs.length → mvR cs.length xs (rowsTo cs gs n) = mvOf cs.length ((zsOf cs gs xs).take n) := by
    intro n
    induction n with
    | zero => intro _; rfl
    | succ n ih =>
      intro h
      have hg : gs[n]? = some gs[n] := List.getElem?_eq_getElem (by omega)
      rw [rowsTo_succ hg, take_snoc (zs_at hl (by omega)), mvOf_snoc, ← ih (by omega)]
      unfold rowAt
      cases hr : routeOf cs gs gs[n] with
      | none => simp [mvStep]
      | some r =>
        show mvR cs.length xs (rowsTo cs gs n ++ [(n, r.1, r.2, gs[n].2)]) = _
        rw [mvR_snoc]
        unfold stepR
        simp only
        rw [List.getD_eq_getElem?_getD, List.getElem?_eq_getElem (show n < xs.length by omega)]
        rfl
  have := key gs.length (Nat.le_refl _)
  rw [List.take_of_length_le (by unfold zsOf; rw [List.length_zip, List.length_map]; omega)] at this
  exact this
theorem row_mem {cs : List Int} {gs : List Gp} {n : Nat} {r : Rw} (h : r ∈ rowsTo cs gs n) : ∃ g, gs[r.1]? = some g ∧ routeOf cs gs g = some (r.2.1, r.2.2.1) ∧ r.1 < n := by
  unfold rowsTo at h
  rw [List.mem_filterMap] at h
  obtain ⟨j, hj, e⟩ := h
  rw [Option.bind_eq_some_iff] at e
  obtain ⟨g, hg, e⟩ := e
  unfold rowAt at e
  obtain ⟨q, hq, e⟩ := Option.map_eq_some_iff.mp e
  subst e
  exact ⟨g, hg, hq, List.mem_range.mp hj⟩
theorem rows_has {cs : List Int} {gs : List Gp} {n k : Nat} (hk : k < n) (hkg : k < gs.length) : ((rowsTo cs gs n).map (fun r => (r.1 : Int))).contains (k : Int) = (routeOf cs gs gs[k]).isSome := by
  rw [Bool.eq_iff_iff, List.contains_iff_mem]
  constructor
  · intro h
    obtain ⟨r, hr, e⟩ := List.mem_map.mp h
    obtain ⟨g, hg, hq, _⟩ := row_mem hr
    have e : r.1 = k := by have e : (r.1 : Int) = k := e; omega
    rw [e, List.getElem?_eq_getElem hkg] at hg
    cases hg
    rw [hq]; rfl
  · intro h
    obtain ⟨q, hq⟩ := Option.isSome_iff_exists.mp h
    refine List.mem_map.mpr ⟨(k, q.1, q.2, gs[k].2), ?_, rfl⟩
    unfold rowsTo
    rw [List.mem_filterMap]
    refine ⟨k, List.mem_range.mpr hk, ?_⟩
    rw [List.getElem?_eq_getElem hkg]
    unfold rowAt
    show Option.map _ (routeOf cs gs gs[k]) = _
    rw [hq]; rfl
def othOf (cs : List Int) (gs : List Gp) (n : Nat) : List Nat := (List.range n).filter (fun k => !((rowsTo cs gs gs.length).map (fun r => (r.1 : Int))).contains (k : Int))
theorem oth_good {cs : List Int} {gs : List Gp} {xs : List Int} (hl : xs.length = gs.length) : (((othOf cs gs xs.length).map (fun (k : Nat) => (k : Int))).filter (fun k => !decide (xs.getD k.toNat 0 = 0))).isEmpty = (zsOf cs gs xs).all goodZ := by
  rw [Bool.eq_iff_iff, List.isEmpty_iff, List.filter_eq_nil_iff, List.all_eq_true]
  constructor
  · intro h z hz
    obtain ⟨k, hk, e⟩ := List.mem_iff_getElem.mp hz
    have hkg : k < gs.length := by have := hk; unfold zsOf at this; rw [List.length_zip, List.length_map] at this; omega
    have e2 := zs_at (cs := cs) hl hkg
    rw [List.getElem?_eq_getElem hk, e] at e2
    cases e2
    unfold goodZ
    cases hr : routeOf cs gs gs[k] with
    | some r => rfl
    | none =>
      have := h (k : Int) (List.mem_map.mpr ⟨k, ?_, rfl⟩)
      · rw [Int.toNat_natCast, List.getD_eq_getElem?_getD, List.getElem?_eq_getElem (show k < xs.length by omega)] at this
        simpa using this
      · unfold othOf
        rw [List.mem_filter]
        refine ⟨List.mem_range.mpr (by omega), ?_⟩
        rw [rows_has hkg hkg, hr]; rfl
  · intro h k hk0
    obtain ⟨k, hk, rfl⟩ := List.mem_map.mp hk0
    unfold othOf at hk
    rw [List.mem_filter, List.mem_range] at hk
    have hkg : k < gs.length := by omega
    rw [rows_has hkg hkg] at hk
    have := h _ (List.mem_of_getElem? (zs_at (cs := cs) hl hkg))
    unfold goodZ at this
    rw [Int.toNat_natCast, List.getD_eq_getElem?_getD, List.getElem?_eq_getElem (show k < xs.length by omega)]
    cases hr : routeOf cs gs gs[k] with
    | some r => rw [hr] at hk; simp at hk
    | none => rw [hr] at this; simpa using this
theorem meets_by {cs : List Int} {gs : List Gp} {xs : List Int} (hl : xs.length = gs.length) : meetsD cs gs xs =
    ((((othOf cs gs xs.length).map (fun (k : Nat) => (k : Int))).filter (fun k => !decide (xs.getD k.toNat 0 = 0))).isEmpty && ((subL (rExc cs gs) (mvR cs.length xs (rowsTo cs gs gs.length)).1).filter (fun x => !decide (x = 0))).isEmpty && ((subL (rFre cs gs) (mvR cs.length xs (rowsTo cs gs gs.length)).2).filter (fun x => decide (x < 0))).isEmpty) := by
  have hm := mvOf_len cs.length (zsOf cs gs xs)
  rw [mvR_all hl, oth_good hl, sub_eq (by rw [rExc_len, hm.1]), sub_le (by rw [rFre_len, hm.2])]
  rfl
theorem oth_mem {cs : List Int} {gs : List Gp} {n : Nat} {k : Int} (h : k ∈ (othOf cs gs n).map (fun (k : Nat) => (k : Int))) : ∃ m : Nat, k = m ∧ m < n := by
  obtain ⟨m, hm, rfl⟩ := List.mem_map.mp h
  unfold othOf at hm
  rw [List.mem_filter, List.mem_range] at hm
  exact ⟨m, rfl, hm.1⟩
theorem Rl.app {β : Type} {R : V → β → Prop} {vs ws : List V} {rs ss : List β} (h : Rl R vs rs) (h' : Rl R ws ss) : Rl R (vs ++ ws) (rs ++ ss) := by
  refine ⟨by simp [h.1, h'.1], fun j v r h1 h2 => ?_⟩
  by_cases hj : j < vs.length
  · rw [List.getElem?_append_left hj] at h1
    rw [List.getElem?_append_left (by rw [← h.1]; exact hj)] at h2
    exact h.2 j v r h1 h2
  · rw [List.getElem?_append_right (by omega)] at h1
    rw [List.getElem?_append_right (by rw [← h.1]; omega), ← h.1] at h2
    exact h'.2 _ v r h1 h2
def TuV (K : PySem.W.Frag) (H : Hp) (v : V) (xs : List Int) : Prop := ∃ T, v = .ref T ∧ SqT K H T (xs.map V.int)
theorem TuV.tk {K : PySem.W.Frag} {H H' : Hp} {v : V} {xs : List Int} (h : TuV K H v xs) (s : TupK H H') : TuV K H' v xs := by
  obtain ⟨T, e, h⟩ := h; exact ⟨T, e, s.sq h⟩
theorem ext_dom {H H1 : Hp} {st g : Addr} {t t' : Nat} (d0 : DV H st g t) (x : Ext st g H H1) (d1 : DV H1 st g t') {a : Addr} (h : dom H a) : dom H1 a := by
  by_cases h1 : a = st
  · rw [h1]; exact d1.occ.1
  by_cases h2 : a = g
  · rw [h2]; exact d1.occ.2
  unfold dom at *
  cases e : H a with
  | none => exact absurd e h
  | some o => rw [x _ _ e h1 h2]; simp
theorem ext_new {H H1 : Hp} {st g : Addr} {t t' : Nat} (d0 : DV H st g t) (x : Ext st g H H1) (d1 : DV H1 st g t') {a : Addr} (n : H1 a = none) (h : dom H a) : False := ext_dom d0 x d1 h n
theorem IT.cutN {K : PySem.W.Frag} {H : Hp} {a : Addr} {L M : Nat} {Q : VK} {σ : L2.St} (h : IT K H a L M) (lo : Option Int) (q : ∀ (H' : Hp) (b : Addr), Same H H' → IT K H' b L M → Q (.ref b) H') : tNoPart σ H (fun u H3 => rSlA K (.ref a) lo u H3 Q) := IT.cut h lo none q
def MM : Nat := 10 ^ 12
theorem wt_ints (ns : List Int) : wtAll (ns.map PyData.int) = ns.length * 42 := by
  induction ns with
  | nil => rfl
  | cons a ns ih => simp only [List.map_cons, wtAll, wt, ih, List.length_cons]; omega
def VF (K : PySem.W.Frag) (X : Addr → Prop) (H : Hp) (v : V) : Prop := ∃ d, Dw K X H v d ∧ Fit (10 ^ 29) 4 5000 d
theorem VF.l {K : PySem.W.Frag} {X : Addr → Prop} {H H' : Hp} {v : V} (h : VF K X H v) (l : LX X H H') : VF K X H' v := by
  obtain ⟨d, h1, h2⟩ := h; exact ⟨d, h1.lx l, h2⟩
theorem IT.vf {K : PySem.W.Frag} {X : Addr → Prop} {H : Hp} {p : Addr} {L M : Nat} (h : IT K H p L M) (hL : L ≤ 100) (hM : M ≤ 10 ^ 29) : VF K X H (.ref p) := by
  obtain ⟨xs, h1, h2, h3⟩ := h
  exact ⟨dI xs, .of_dp (to_ints xs) (dI_sq h1), (fit_dI h3).mono hM (by decide) (by omega)⟩
def ITn (K : PySem.W.Frag) (H : Hp) (p : Addr) : Prop := ∃ xs : List Int, SqT K H p (xs.map V.int) ∧ 1 ≤ xs.length ∧ xs.length ≤ 10 ∧ ∀ x ∈ xs, x.natAbs ≤ 10 ^ 12
theorem ITn.tk {K : PySem.W.Frag} {H H' : Hp} {p : Addr} (h : ITn K H p) (s : TupK H H') : ITn K H' p := by obtain ⟨xs, h1, h2⟩ := h; exact ⟨xs, s.sq h1, h2⟩
theorem ITn.vf {K : PySem.W.Frag} {X : Addr → Prop} {H : Hp} {p : Addr} (h : ITn K H p) : VF K X H (.ref p) := by
  obtain ⟨xs, h1, h2, h3, h4⟩ := h
  exact IT.vf (L := 10) (M := 10 ^ 12) ⟨xs, h1, h3, h4⟩ (by decide) (by decide)
def X2 (st g : Addr) (a : Addr) : Prop := a = st ∨ a = g
theorem x2_dom {H : Hp} {st g a : Addr} {t : Nat} (d : DV H st g t) (h : X2 st g a) : dom H a := by
  rcases h with h | h
  · rw [h]; exact d.occ.1
  · rw [h]; exact d.occ.2
def Xd3 (st g D : Addr) (a : Addr) : Prop := a = st ∨ a = g ∨ a = D
end Pv

namespace Pv
open PySem PySem.Spec PyProof.Rows L2
/-! a third drawing state: a list of the cells, the turn and the rests -/
structure DU (H : Hp) (st c r : Addr) (t : Nat) : Prop where
  hs : H st = some (.lst [.ref c, .int t, .ref r])
  ex : ∃ cells rests : List Int, H c = some (.lst (cells.map V.int)) ∧ H r = some (.lst (rests.map V.int)) ∧ cells.length = rests.length ∧ 0 < cells.length ∧ cells.length ≤ 100 ∧ ∀ x ∈ rests, 0 ≤ x
  n1 : c ≠ r
  n2 : st ≠ c
  n3 : st ≠ r
section
variable {H H1 H2 : Hp} {st c r p : Addr} {t : Nat} {o : HO}
theorem DU.tup (d : DU H st c r t) (e : Ext st r H H1) : TupK H H1 := by
  obtain ⟨cells, rests, hc, hr, _⟩ := d.ex
  intro b xs
  refine ⟨fun h => ?_, fun u h => ?_⟩
  · exact e _ _ h (ne_of h d.hs (by intro z; cases z)) (ne_of h hr (by intro z; cases z))
  · exact e _ _ h (ne_of h d.hs (by intro z; cases z)) (ne_of h hr (by intro z; cases z))
theorem DU.same (d : DU H st c r t) (s : Same H H1) : DU H1 st c r t := by
  obtain ⟨cells, rests, hc, hr, q⟩ := d.ex
  exact ⟨s _ _ d.hs, ⟨cells, rests, s _ _ hc, s _ _ hr, q⟩, d.n1, d.n2, d.n3⟩
theorem DU.new (d : DU H st c r t) (np : H p = none) : DU (upd H p o) st c r t := d.same (sameNew np)
theorem DU.put (d : DU H st c r t) (h : p ≠ st ∧ p ≠ c ∧ p ≠ r) : DU (upd H p o) st c r t := by
  obtain ⟨cells, rests, hc, hr, q⟩ := d.ex
  obtain ⟨h1, h2, h3⟩ := h
  exact ⟨by rw [upd_ne h1.symm]; exact d.hs, ⟨cells, rests, by rw [upd_ne h2.symm]; exact hc, by rw [upd_ne h3.symm]; exact hr, q⟩, d.n1, d.n2, d.n3⟩
theorem DU.off (d : DU H st c r t) (np : H p = none) : p ≠ st ∧ p ≠ c ∧ p ≠ r := by
  obtain ⟨cells, rests, hc, hr, q⟩ := d.ex
  exact ⟨(ne_of_none d.hs np).symm, (ne_of_none hc np).symm, (ne_of_none hr np).symm⟩
theorem DU.lasts (d : DU H st c r t) (x : Ext st r H H1) : Lasts st r H H1 := by
  obtain ⟨cells, rests, hc, hr, q⟩ := d.ex
  refine ⟨d.tup x, fun a xs e n1 n2 => x _ _ e n1 n2, fun a kvs e => ?_⟩
  exact x _ _ e (ne_of e d.hs (by intro z; cases z)) (ne_of e hr (by intro z; cases z))
theorem DU.nil (d : DU H1 st c r t) (x : Ext st r H H1) (np : H1 p = none) : H p = none := by
  obtain ⟨o1, o2, o3⟩ := d.off np
  cases e : H p with
  | none => rfl
  | some o => have := x _ _ e o1 o3; rw [np] at this; cases this
theorem DU.occ (d : DU H st c r t) : H st ≠ none ∧ H r ≠ none := by
  obtain ⟨cells, rests, hc, hr, _⟩ := d.ex
  exact ⟨by rw [d.hs]; simp, by rw [hr]; simp⟩
end
end Pv

namespace Pv
open PySem PySem.Spec PyProof.Rows L2
def topS (i : Nat) : Stmt := PySem.Challenge.pw_postvote_k21_shortfalls.main.body.getD i (.Pass ⟨0, 0, 0, 0⟩)
abbrev sSt : Stmt := topS 21
theorem scSt : FnScope ["_law_script", "_law_cells", "_law_cell"] ["_law_script"] (defScope sSt) := ⟨rfl, rfl, rfl, by decide +kernel, rfl, by decide +kernel, by decide +kernel⟩
abbrev sDr : Stmt := topS 22
theorem scDr : FnScope ["_law_deck_here", "_law_many", "_law_at", "_law_digit", "_law_mixed_here"] ["_law_deck_here", "_law_many"] (defScope sDr) := ⟨rfl, rfl, rfl, by decide +kernel, rfl, by decide +kernel, by decide +kernel⟩
abbrev sGt : Stmt := topS 23
theorem scGt : FnScope ["_law_deck_here", "_law_many"] ["_law_deck_here", "_law_many"] (defScope sGt) := ⟨rfl, rfl, rfl, by decide +kernel, rfl, by decide +kernel, by decide +kernel⟩
theorem b01 (b : Bool) : -(2 ^ 64) < (if b = true then (1 : Int) else 0) ∧ (if b = true then (1 : Int) else 0) < 2 ^ 64 := by cases b <;> decide
section
variable {P : Program} {w : World} {K : PySem.W.Frag} {mg : Str → Option Value} {base : Heap}
def spStart (K : PySem.W.Frag) : Sp := fun vs H Q _ => ∃ (a : Addr) (ns : List Int), vs = [.ref a] ∧ SqL K H a (ns.map V.int) ∧ ns.length ≤ 63 ∧
  ∀ H' st c r, Same H H' → DU H' st c r 0 → Q (.ref st) H'
set_option maxHeartbeats 4000000 in
theorem ok_St {f : Addr} {fd : FuncData} (F : Fun K "_law_deck" "_law_deck" sSt f fd)
    (m_list : mg "list" = none) (m_len : mg "len" = none) (m_int : mg "int" = none) (m_abs : mg "abs" = none) :
    FnOk P w K mg base CX0 1 f fd ["_law_script"] (spStart K) := by
  refine F.ok scSt (fun vs H Q E h => ?_) (fun cdv A outer s H vs Q E hr h => ?_)
  · obtain ⟨a, ns, rfl, _⟩ := h; rfl
  · obtain ⟨a, ns, rfl, hS, hn, q⟩ := h
    refine ⟨_, pss_cons (ps_set (i := 1) scSt.nd rfl (.inl rfl) (pe_op op_cat (pe_callTy call_list_of (by rfl) m_list (by decide +kernel) (pa_cons (pe_slice sl_list (pv 0) po_none (po_some (pe_int))) pa_nil)) (pe_op op_rep (pe_lst (pa_cons (pe_int) pa_nil)) (pe_callTy call_int1 (by rfl) m_int (by decide +kernel) (pa_cons (pe_cmpR op_eq (pe_callB call_lenQ (by rfl) m_len PySem.boot_len (pa_cons (pv 0) pa_nil)) (pe_int) (nomark _)) pa_nil)))))
      (pss_one (ps_ret (pe_lst (pa_cons (pv 1) (pa_cons (pe_int) (pa_cons (pe_lc (own := [("_law_cell", 2)]) (g := gName 2) (tt := tYes) (te := tOp (rI CMul fun i j => .int (i * j)) (tCB (fun xs H Q => ∃ i, xs = [.int i] ∧ Q (.int (if i < 0 then -i else i)) H) (tCons (tVar 2) tNil)) (tCB (fun xs H Q => (∃ i, xs = [.int i] ∧ Q (.int i) H) ∨ ∃ k, xs = [.bl k] ∧ Q (.int (if k then 1 else 0)) H) (tCons (tOp (rI0 fun i j => .bl (decide (j ≤ i))) (tCB (fun xs H Q => ∃ i, xs = [.int i] ∧ Q (.int (if i < 0 then -i else i)) H) (tCons (tVar 2) tNil)) (tOp (rI CPow fun i j => .int (i ^ j.toNat)) (tC (.int 10)) (tC (.int 18)))) tNil))) rfl scSt.nd (pi_list (pv 1)) (blkOk_by (N := ["_law_script", "_law_cells", "_law_cell"]) (sc := defScope sSt) (by decide +kernel)) (fun _ _ _ _ _ => pg_name (i := 2) scSt.nd rfl (.inl rfl)) (fun _ _ _ _ _ => pts_nil) (fun _ _ _ _ _ => pe_op op_mul (pe_callB call_abs (by rfl) m_abs (by decide +kernel) (pa_cons (pv 2) pa_nil)) (pe_callTy call_int1 (by rfl) m_int (by decide +kernel) (pa_cons (pe_cmpR op_ge (pe_callB call_abs (by rfl) m_abs (by decide +kernel) (pa_cons (pv 2) pa_nil)) (pe_op op_pow (pe_int) (pe_int)) (nomark _)) pa_nil)))) pa_nil)))))), ?_⟩
    have hcut : cutV (ns.map V.int) none (some 63) = ns.map V.int := by rw [show cutV (ns.map V.int) none (some 63) = (ns.map V.int).take 63 from cut_to _ 63, List.take_of_length_le (by rw [List.length_map]; exact hn)]
    refine ⟨.ref a, rfl, 63, rfl, a, _, rfl, hS, fun p np => ⟨p, _, rfl, .inl (SqL.of upd_same), fun D nD => ?_⟩⟩
    rw [hcut]
    have s1 := (sameNew (o := .lst (ns.map V.int)) np).trans (sameNew (o := .lst (ns.map V.int)) (by rw [hcut] at nD; exact nD))
    have eD : (upd (upd H p (.lst (ns.map V.int))) D (.lst (ns.map V.int))) D = some (.lst (ns.map V.int)) := upd_same
    generalize upd (upd H p (.lst (ns.map V.int))) D (.lst (ns.map V.int)) = H2 at s1 eD ⊢
    refine ⟨by decide, fun p1 n1 => ⟨.ref a, rfl, a, _, rfl, .inl ((s1.trans (sameNew n1)).seq hS), rfl, .inr ⟨_, rfl, p1, _, _, rfl, rfl, upd_same, by split <;> decide, by split <;> decide, by split <;> decide, fun p2 n2 => ?_⟩⟩⟩
    generalize hb : decide (V.int ((List.map V.int ns).length : Int) = V.int 0) = b at n2 ⊢
    have e2' := upNew n2 (o := .lst (List.replicate (if b = true then (1 : Int) else 0).toNat [V.int 11]).flatten) (upNew n1 (o := .lst [.int 11]) eD)
    have hl0 : ns.length = 0 ↔ b = true := by
      rw [← hb, decide_eq_true_eq, List.length_map]
      constructor
      · intro h; rw [h]; rfl
      · intro h; have := V.int.inj h; omega
    have hrep : (List.replicate (if b = true then (1 : Int) else 0).toNat [V.int 11]).flatten = ((if b = true then [11] else []) : List Int).map V.int := by cases b <;> rfl
    refine ⟨D, p2, _, _, rfl, rfl, e2', upd_same, ?_, fun C nC => ?_⟩
    · rw [hrep, List.length_map, List.length_map]; have : (if b = true then [11] else [] : List Int).length ≤ 1 := by split <;> simp
      have h5 := small (n := 100) (by omega); omega
    rw [hrep, ← List.map_append] at *
    generalize hcl : ns ++ (if b = true then [11] else []) = cells
    have hcl0 : 0 < cells.length ∧ cells.length ≤ 64 := by
      rw [← hcl, List.length_append]
      by_cases hb1 : b = true
      · rw [if_pos hb1]; simp; omega
      · rw [if_neg hb1]
        have : ns.length ≠ 0 := fun z => hb1 (hl0.mp z)
        simp; omega
    generalize hHC : upd (upd (upd H2 p1 (.lst [.int 11])) p2 (.lst (((if b = true then [11] else []) : List Int).map V.int))) C (.lst (cells.map V.int)) = HC
    have eC : HC C = some (.lst (cells.map V.int)) := by rw [← hHC]; exact upd_same
    have s0C : Same H HC := by rw [← hHC]; exact ((s1.trans (sameNew n1)).trans (sameNew n2)).trans (sameNew nC)
    refine ⟨.ref C, rfl, .ref C, rfl, C, rfl, ⟨_, SqL.of eC⟩, fun R nR => lc_it (walk_list (K := K) (a := C) (xs := cells.map V.int))
      (LcP HC R cells (fun z => some (.int (absI z * (if decide ((10 : Int) ^ (18 : Int).toNat ≤ absI z) = true then 1 else 0))))) (.start nR) (fun j H3 _ h => SqL.of (h.1 _ _ eC)) ?_ ?_⟩
    · rintro j x H3 H4 hj hL ⟨rfl, hx⟩
      have hx : (cells.map V.int)[j]? = some x := hx
      rw [List.length_map] at hj
      rw [atS hj] at hx
      cases hx
      refine ⟨rfl, .int cells[j], rfl, _, rfl, .int cells[j], rfl, _, rfl, _, _, rfl, rfl, ⟨by decide, by decide, by decide⟩, _, _, rfl, rfl, .inr ⟨_, rfl, _, _, rfl, rfl, .inr ⟨(b01 _).1, (b01 _).2⟩, ?_⟩⟩
      exact hL.yes nR (Same.refl _) (List.getElem?_eq_getElem hj) rfl (by omega)
    · rintro H3 hL
      have e3 := hL.done (by rw [List.length_map]; exact Nat.le_refl _)
      rw [fm_map] at e3
      have em : cells.map (fun z => V.int (absI z * (if decide ((10 : Int) ^ (18 : Int).toNat ≤ absI z) = true then 1 else 0))) = (cells.map (fun z => absI z * (if decide ((10 : Int) ^ (18 : Int).toNat ≤ absI z) = true then 1 else 0))).map V.int := by rw [List.map_map]; rfl
      rw [em] at e3
      refine ⟨(show (3 : Nat) ≤ sizeLine by decide), fun st nst => q _ st C R ((s0C.trans hL.1).trans (sameNew nst)) ⟨upd_same, ⟨cells, _, upNew nst (hL.1 _ _ eC), upNew nst e3, by rw [List.length_map], hcl0.1, by omega, ?_⟩, ne_of_none eC nR, ?_, ?_⟩⟩
      · intro x hx
        obtain ⟨c, hc, rfl⟩ := List.mem_map.mp hx
        have := absI_nn c
        split <;> omega
      · exact (ne_of_none (hL.1 _ _ eC) nst).symm
      · exact (ne_of_none e3 nst).symm
def spDraw : Sp := fun vs H Q _ => ∃ (st c r : Addr) (t : Nat) (m : Int), vs = [.ref st, .int m] ∧ DU H st c r t ∧ t < 900000 ∧ 0 < m ∧ m ≤ 2 ^ 60 ∧
  ∀ (H' : Hp) (d : Int), 0 ≤ d → d < m → DU H' st c r (t + 1) → Ext st r H H' → Q (.int d) H'
set_option maxHeartbeats 4000000 in
theorem ok_Dr {f : Addr} {fd : FuncData} (F : Fun K "_law_draw" "_law_draw" sDr f fd)
    (m_len : mg "len" = none) :
    FnOk P w K mg base CX0 1 f fd ["_law_deck_here", "_law_many"] spDraw := by
  refine F.ok scDr (fun vs H Q E h => ?_) (fun cdv A outer s H vs Q E hr h => ?_)
  · obtain ⟨st, c, r, t, m, rfl, _⟩ := h; rfl
  · obtain ⟨st, c, r, t, m, rfl, hd, ht, hm, hm2, q⟩ := h
    refine ⟨_, pss_cons (ps_set (i := 2) scDr.nd rfl (.inl rfl) (pe_op op_mod (pe_ix ix_list (pv 0) (pe_int) (fun _ _ => rfl)) (pe_callB call_lenQ (by rfl) m_len PySem.boot_len (pa_cons (pe_ix ix_list (pv 0) (pe_int) (fun _ _ => rfl)) pa_nil))))
      (pss_cons (ps_asg (pe_op op_add (pe_ix ix_list (pv 0) (pe_int) (fun _ _ => rfl)) (pe_int)) (pg_sub (pv 0) (pe_int) set_list))
      (pss_cons (ps_if (pt_cmpR op_gt (pe_ix ix_list (pe_ix ix_list (pv 0) (pe_int) (fun _ _ => rfl)) (pv 2) (fun _ _ => rfl)) (pe_int) (nomark _))
        (pss_cons (ps_set (i := 3) scDr.nd rfl (.inl rfl) (pe_op op_mod (pe_ix ix_list (pe_ix ix_list (pv 0) (pe_int) (fun _ _ => rfl)) (pv 2) (fun _ _ => rfl)) (pv 1)))
        (pss_cons (ps_asg (pe_op op_fdivW (pe_ix ix_list (pe_ix ix_list (pv 0) (pe_int) (fun _ _ => rfl)) (pv 2) (fun _ _ => rfl)) (pv 1)) (pg_sub (pe_ix ix_list (pv 0) (pe_int) (fun _ _ => rfl)) (pv 2) set_list))
        (pss_one (ps_ret (pv 3))))) pss_nil)
      (pss_cons (ps_set (i := 4) scDr.nd rfl (.inl rfl) (pe_op op_mod (pe_op op_pow (pe_op op_add (pe_op op_add (pe_op op_mod (pe_ix ix_list (pe_ix ix_list (pv 0) (pe_int) (fun _ _ => rfl)) (pv 2) (fun _ _ => rfl)) (pe_int)) (pe_op op_mul (pe_int) (pe_ix ix_list (pv 0) (pe_int) (fun _ _ => rfl)))) (pe_int)) (pe_int)) (pe_int)))
      (pss_cons (ps_set (i := 4) scDr.nd rfl (.inl rfl) (pe_op op_mod (pe_op op_pow (pe_op op_add (pv 4) (pe_op op_mul (pe_op op_mul (pe_int) (pe_ix ix_list (pv 0) (pe_int) (fun _ _ => rfl))) (pe_ix ix_list (pv 0) (pe_int) (fun _ _ => rfl)))) (pe_int)) (pe_int)))
      (pss_one (ps_ret (pe_op op_mod (pe_op op_fdiv (pv 4) (pe_int)) (pv 1)))))))), ?_⟩
    obtain ⟨cells, rests, hc, hrr, hl, hl0, hl1, hnn⟩ := hd.ex
    refine ⟨.ref st, rfl, st, _, 1, .int t, rfl, rfl, SqL.of hd.hs, atI_nat (j := 1) rfl, .ref st, rfl, st, _, 0, .ref c, rfl, rfl, SqL.of hd.hs, atI_nat (j := 0) rfl, c, _, rfl, .inl (SqL.of hc), _, _, rfl, rfl, by rw [List.length_map]; omega, ?_⟩
    have hn : (List.map V.int cells).length = cells.length := List.length_map ..
    have hsp : ((t : Int) % (((List.map V.int cells).length : Nat) : Int)) = ((t % cells.length : Nat) : Int) := by rw [hn]; norm_cast
    have hlt : t % cells.length < cells.length := Nat.mod_lt _ hl0
    generalize hj : t % cells.length = j at hsp hlt
    obtain ⟨x, hx⟩ : ∃ x, rests[j]? = some x := ⟨rests[j], List.getElem?_eq_getElem (by omega)⟩
    obtain ⟨y, hy⟩ : ∃ y, cells[j]? = some y := ⟨cells[j], List.getElem?_eq_getElem (by omega)⟩
    have hx0 : 0 ≤ x := hnn x (List.mem_of_getElem? hx)
    have hxv : (rests.map V.int)[j]? = some (.int x) := by rw [List.getElem?_map, hx]; rfl
    have hyv : (cells.map V.int)[j]? = some (.int y) := by rw [List.getElem?_map, hy]; rfl
    dsimp only
    rw [hsp]
    refine ⟨.ref st, rfl, st, _, 1, .int t, rfl, rfl, SqL.of hd.hs, atI_nat (j := 1) rfl, _, _, rfl, rfl, .ref st, rfl, st, _, 1, 1, rfl, rfl, hd.hs, rfl, ?_⟩
    have e0 : (upd H st (.lst [.ref c, .int ((t : Int) + 1), .ref r])) st = some (.lst [.ref c, .int ((t : Int) + 1), .ref r]) := upd_same
    have e1 : (upd H st (.lst [.ref c, .int ((t : Int) + 1), .ref r])) r = some (.lst (rests.map V.int)) := by rw [upd_ne hd.n3.symm]; exact hrr
    have e2 : (upd H st (.lst [.ref c, .int ((t : Int) + 1), .ref r])) c = some (.lst (cells.map V.int)) := by rw [upd_ne hd.n2.symm]; exact hc
    have ex0 : Ext st r H (upd H st (.lst [.ref c, .int ((t : Int) + 1), .ref r])) := fun b o h n1 _ => by rw [upd_ne n1]; exact h
    have d0 : DU (upd H st (.lst [.ref c, .int ((t : Int) + 1), .ref r])) st c r (t + 1) := ⟨upd_same, ⟨cells, rests, e2, e1, hl, hl0, hl1, hnn⟩, hd.n1, hd.n2, hd.n3⟩
    have i2 : atI [V.ref c, V.int ((t : Int) + 1), V.ref r] 2 = some (.ref r) := atI_nat (j := 2) rfl
    have i1 : atI [V.ref c, V.int ((t : Int) + 1), V.ref r] 1 = some (.int ((t : Int) + 1)) := atI_nat (j := 1) rfl
    have i0 : atI [V.ref c, V.int ((t : Int) + 1), V.ref r] 0 = some (.ref c) := atI_nat (j := 0) rfl
    refine ⟨.ref st, rfl, st, _, 2, .ref r, rfl, rfl, SqL.of e0, i2, .int j, rfl, r, _, _, .int x, rfl, rfl, SqL.of e1, atI_nat hxv, _, _, rfl, rfl, _, rfl, ite2 (fun hgt => ?_) (fun hle => ?_)⟩
    · refine ⟨.ref st, rfl, st, _, 2, .ref r, rfl, rfl, SqL.of e0, i2, .int j, rfl, r, _, _, .int x, rfl, rfl, SqL.of e1, atI_nat hxv, .int m, rfl, _, _, rfl, rfl, hm, ?_⟩
      refine ⟨.ref st, rfl, st, _, 2, .ref r, rfl, rfl, SqL.of e0, i2, .int j, rfl, r, _, _, .int x, rfl, rfl, SqL.of e1, atI_nat hxv, .int m, rfl, _, _, rfl, rfl, wide_div (b := 61) hm (by omega) (by decide) (by decide), ?_⟩
      refine ⟨.ref st, rfl, st, _, 2, .ref r, rfl, rfl, SqL.of e0, i2, .int j, rfl, r, _, _, j, rfl, rfl, e1, ixN_nat (by rw [List.length_map]; omega), ?_⟩
      refine ⟨_, rfl, q _ _ (Int.emod_nonneg _ (by omega)) (Int.emod_lt_of_pos _ hm) ?_ ?_⟩
      · refine ⟨by rw [upd_ne hd.n3]; exact upd_same, ⟨cells, rests.set j (x / m), by rw [upd_ne hd.n1]; exact e2, by rw [upd_same, List.map_set], by rw [List.length_set]; exact hl, hl0, hl1, ?_⟩, hd.n1, hd.n2, hd.n3⟩
        intro z hz
        rcases List.mem_or_eq_of_mem_set hz with h | h
        · exact hnn z h
        · rw [h]; exact Int.ediv_nonneg hx0 (by omega)
      · exact fun b o h n1 n2 => by rw [upd_ne n2]; exact ex0 b o h n1 n2
    · have hy1 : 0 ≤ y % 2147483629 := Int.emod_nonneg _ (by decide)
      have hy2 : y % 2147483629 < 2147483629 := Int.emod_lt_of_pos _ (by decide)
      refine ⟨.ref st, rfl, st, _, 0, .ref c, rfl, rfl, SqL.of e0, i0, .int j, rfl, c, _, _, .int y, rfl, rfl, SqL.of e2, atI_nat hyv, _, _, rfl, rfl, (by show (0 : Int) < 2147483629; decide), .ref st, rfl, st, _, 1, .int ((t : Int) + 1), rfl, rfl, SqL.of e0, i1, _, _, rfl, rfl, .inl ⟨by decide, by decide⟩, _, _, rfl, rfl, _, _, rfl, rfl, _, _, rfl, rfl, ⟨by decide, by decide, by omega⟩, _, _, rfl, rfl, (by show (0 : Int) < 2147483647; decide), ?_⟩
      dsimp only
      generalize hu : (y % 2147483629 + 48271 * ((t : Int) + 1) + 7) ^ (3 : Int).toNat % 2147483647 = u
      have hu1 : 0 ≤ u := by rw [← hu]; exact Int.emod_nonneg _ (by decide)
      have hu2 : u < 2147483647 := by rw [← hu]; exact Int.emod_lt_of_pos _ (by decide)
      have hsq : 0 ≤ 69621 * ((t : Int) + 1) * ((t : Int) + 1) ∧ 69621 * ((t : Int) + 1) * ((t : Int) + 1) ≤ 69621 * 1000000 * 1000000 := by
        have h1 : 0 ≤ 69621 * ((t : Int) + 1) := by omega
        have h2 : 69621 * ((t : Int) + 1) ≤ 69621 * 1000000 := by omega
        exact ⟨Int.mul_nonneg h1 (by omega), Int.mul_le_mul h2 (by omega) (by omega) (by omega)⟩
      refine ⟨.int u, rfl, .ref st, rfl, st, _, 1, .int ((t : Int) + 1), rfl, rfl, SqL.of e0, i1, _, _, rfl, rfl, .inl ⟨by decide, by decide⟩, .ref st, rfl, st, _, 1, .int ((t : Int) + 1), rfl, rfl, SqL.of e0, i1, _, _, rfl, rfl, .inl (by omega), _, _, rfl, rfl, _, _, rfl, rfl, ⟨by decide, by decide, by omega⟩, _, _, rfl, rfl, (by show (0 : Int) < 2147483587; decide), ?_⟩
      refine ⟨_, rfl, _, _, rfl, rfl, ⟨by decide, by decide⟩, .int m, rfl, _, _, rfl, rfl, hm, ?_⟩
      exact q _ _ (Int.emod_nonneg _ (by omega)) (Int.emod_lt_of_pos _ hm) d0 ex0
def spGt : Sp := fun vs H Q _ => ∃ (st c r : Addr) (t : Nat) (m : Int), vs = [.ref st, .int m] ∧ DU H st c r t ∧ t + 1 < 900000 ∧ 0 < m ∧ m ≤ 2 ^ 60 ∧
  ∀ (H' : Hp) (d : Int), 0 ≤ d → d < m → DU H' st c r (t + 2) → Ext st r H H' → Q (.int d) H'
set_option maxHeartbeats 4000000 in
theorem ok_Gt {f fDr : Addr} {fd fdDr : FuncData} (F : Fun K "_law_great" "_law_great" sGt f fd)
    (FDr : Fun K "_law_draw" "_law_draw" sDr fDr fdDr) (bDr : Binds K fdDr ["_law_deck_here", "_law_many"] []) (gDr : mg "_law_draw" = some (.ref fDr)) (GDr : FnOk P w K mg base CX0 1 fDr fdDr ["_law_deck_here", "_law_many"] spDraw)
     :
    FnOk P w K mg base CX0 2 f fd ["_law_deck_here", "_law_many"] spGt := by
  refine F.ok scGt (fun vs H Q E h => ?_) (fun cdv A outer s H vs Q E hr h => ?_)
  · obtain ⟨st, c, r, t, m, rfl, _⟩ := h; rfl
  · obtain ⟨st, c, r, t, m, rfl, hd, ht, hm, hm2, q⟩ := h
    refine ⟨_, pss_one (ps_ret (pe_op op_mod (pe_op op_add (pe_op op_mul (pe_call GDr (hr.mono (by omega)) (by rfl) gDr FDr.kp bDr .nil pass0 (pa_cons (pv 0) (pa_cons (pe_op op_pow (pe_int) (pe_int)) pa_nil))) (pe_op op_pow (pe_int) (pe_int))) (pe_call GDr (hr.mono (by omega)) (by rfl) gDr FDr.kp bDr .nil pass0 (pa_cons (pv 0) (pa_cons (pe_op op_pow (pe_int) (pe_int)) pa_nil)))) (pv 1))), ?_⟩
    refine ⟨.ref st, rfl, _, _, rfl, rfl, ⟨by decide, by decide, by decide⟩, st, c, r, t, _, rfl, hd, by omega, by decide, by decide, fun H1 d1 h10 h11 D1 X1 => ?_⟩
    have hp : (10 : Int) ^ (6 : Int).toNat = 1000000 := by decide
    rw [hp] at h11
    refine ⟨_, _, rfl, rfl, ⟨by decide, by decide, by decide⟩, _, _, rfl, rfl, .inl (by omega), .ref st, rfl, _, _, rfl, rfl, ⟨by decide, by decide, by decide⟩, st, c, r, _, _, rfl, D1, by omega, by decide, by decide, fun H2 d2 h20 h21 D2 X2 => ?_⟩
    refine ⟨_, _, rfl, rfl, .int m, rfl, _, _, rfl, rfl, hm, q _ _ (Int.emod_nonneg _ (by omega)) (Int.emod_lt_of_pos _ hm) D2 (X1.trans X2)⟩
end
end Pv

namespace Pv
open PySem PySem.Spec PyProof.Rows L2
abbrev sWhole : Stmt := topS 1
abbrev sTupOf : Stmt := topS 2
theorem scWhole : FnScope ["value"] ["value"] (defScope sWhole) := ⟨rfl, rfl, rfl, by decide +kernel, rfl, by decide +kernel, by decide +kernel⟩
theorem scTupOf : FnScope ["value", "least", "most"] ["value", "least", "most"] (defScope sTupOf) := ⟨rfl, rfl, rfl, by decide +kernel, rfl, by decide +kernel, by decide +kernel⟩

/-! what a value is, by its data -/
section
variable {P : Program} {w : World} {K : PySem.W.Frag} {mg : Str → Option Value} {base : Heap}
def spWhole (K : PySem.W.Frag) : Sp := fun vs H Q _ => ∃ (st r : Addr) (v : V) (d : PyData), vs = [v] ∧ Dq K st r H v d ∧ Q (.bl (wholeD d)) H
theorem ok_whole {f : Addr} {fd : FuncData} {k : Nat} (F : Fun K "is_whole" "is_whole" sWhole f fd) (mi : mg "isinstance" = none) (mint : mg "int" = none) (mb : mg "bool" = none) :
    FnOk P w K mg base CX0 (k + 1) f fd ["value"] (spWhole K) := by
  refine F.ok scWhole (fun vs H Q E h => ?_) (fun cdv A outer s H vs Q E hr h => ?_)
  · obtain ⟨st, r, v, d, rfl, _⟩ := h; rfl
  · obtain ⟨st, r, v, d, rfl, hd, q⟩ := h
    refine ⟨_, pss_one (ps_ret (pe_and (pe_callB call_isi (by rfl) mi (by decide +kernel) (pa_cons (pv 0) (pa_cons (pe_bltn (v := .ty "int") (by rfl) mint (by decide +kernel) rfl) pa_nil)))
      (pe_one (pe_not (pe_callB call_isi (by rfl) mi (by decide +kernel) (pa_cons (pv 0) (pa_cons (pe_bltn (v := .ty "bool") (by rfl) mb (by decide +kernel) rfl) pa_nil))))))), ?_⟩
    refine ⟨v, rfl, v, .ty "int", _, _, _, rfl, .ty _, hd.ty, kit_int d, _, rfl, ite2 (fun h1 => ?_) (fun h1 => ?_)⟩
    · refine ⟨v, rfl, v, .ty "bool", _, _, _, rfl, .ty _, hd.ty, kit_bool d, _, rfl, ?_⟩
      unfold wholeD at q
      rw [h1, Bool.true_and] at q
      exact q
    · unfold wholeD at q
      rw [Bool.eq_false_iff.mpr h1, Bool.false_and] at q
      exact q
def spWithin (K : PySem.W.Frag) : Sp := fun vs H Q _ => ∃ (st r : Addr) (v : V) (d : PyData) (a b : Int), vs = [v, .int a, .int b] ∧ Dq K st r H v d ∧ Q (.bl (withinD a b d)) H
def spTupOf (K : PySem.W.Frag) : Sp := fun vs H Q _ => ∃ (st r : Addr) (v : V) (d : PyData) (a b : Int), vs = [v, .int a, .int b] ∧ Dq K st r H v d ∧ Q (.bl (tupOfD a b d)) H
theorem ok_tupOf {f : Addr} {fd : FuncData} {k : Nat} (F : Fun K "is_tuple_of" "is_tuple_of" sTupOf f fd) (mi : mg "isinstance" = none) (mt : mg "tuple" = none) (ml : mg "len" = none) :
    FnOk P w K mg base CX0 (k + 1) f fd ["value", "least", "most"] (spTupOf K) := by
  refine F.ok scTupOf (fun vs H Q E h => ?_) (fun cdv A outer s H vs Q E hr h => ?_)
  · obtain ⟨st, r, v, d, a, b, rfl, _⟩ := h; rfl
  · obtain ⟨st, r, v, d, a, b, rfl, hd, q⟩ := h
    refine ⟨_, pss_one (ps_ret (pe_and (pe_callB call_isi (by rfl) mi (by decide +kernel) (pa_cons (pv 0) (pa_cons (pe_bltn (v := .ty "tuple") (by rfl) mt (by decide +kernel) rfl) pa_nil)))
      (pe_one (pe_chain op_le op_le (pv 1) (pe_callB call_len_seq (by rfl) ml PySem.boot_len (pa_cons (pv 0) pa_nil)) (pv 2))))), ?_⟩
    refine ⟨v, rfl, v, .ty "tuple", _, _, _, rfl, .ty _, hd.ty, kit_tup d, _, rfl, ite2 (fun h1 => ?_) (fun h1 => ?_)⟩
    · cases d with
      | tuple ds =>
        cases hd with
        | @tup p xs _ hT ha =>
          refine ⟨.int a, rfl, .ref p, rfl, p, xs, rfl, .inr hT, _, _, rfl, rfl, _, rfl, ite2 (fun h2 => ?_) (fun h2 => ?_)⟩
          · refine ⟨.int b, rfl, _, _, rfl, rfl, ?_⟩
            have h2' : a ≤ (xs.length : Int) := of_decide_eq_true h2
            simpa [tupOfD, ← DqAll.len ha, h2'] using q
          · have h2' : ¬ a ≤ (xs.length : Int) := fun z => h2 (decide_eq_true z)
            simpa [tupOfD, ← DqAll.len ha, h2'] using q
      | _ => simp [isTup] at h1
    · cases d with
      | tuple ds => simp [isTup] at h1
      | _ => exact q
end
end Pv

namespace Pv
open PySem PySem.Spec PyProof.Rows L2
abbrev sOpt : Stmt := topS 8
abbrev sDem : Stmt := topS 9
abbrev sExc : Stmt := topS 10
abbrev sFre : Stmt := topS 11
abbrev sCla : Stmt := topS 12
abbrev sCro : Stmt := topS 13
abbrev sRes : Stmt := topS 14
theorem scOpt : FnScope ["instance", "group", "option", "posts"] ["instance", "group", "option"] (defScope sOpt) := ⟨rfl, rfl, rfl, by decide +kernel, rfl, by decide +kernel, by decide +kernel⟩
theorem scDem : FnScope ["instance", "totals", "posts", "count"] ["instance"] (defScope sDem) := ⟨rfl, rfl, rfl, by decide +kernel, rfl, by decide +kernel, by decide +kernel⟩
theorem scExc : FnScope ["instance", "capacity", "demand"] ["instance"] (defScope sExc) := ⟨rfl, rfl, rfl, by decide +kernel, rfl, by decide +kernel, by decide +kernel⟩
theorem scFre : FnScope ["instance", "capacity", "demand"] ["instance"] (defScope sFre) := ⟨rfl, rfl, rfl, by decide +kernel, rfl, by decide +kernel, by decide +kernel⟩
theorem scCla : FnScope ["instance", "post", "places"] ["instance"] (defScope sCla) := ⟨rfl, rfl, rfl, by decide +kernel, rfl, by decide +kernel, by decide +kernel⟩
theorem scCro : FnScope ["instance", "post", "excess"] ["instance"] (defScope sCro) := ⟨rfl, rfl, rfl, by decide +kernel, rfl, by decide +kernel, by decide +kernel⟩
theorem scRes : FnScope ["instance", "group", "posts", "claimed", "option"] ["instance", "group"] (defScope sRes) := ⟨rfl, rfl, rfl, by decide +kernel, rfl, by decide +kernel, by decide +kernel⟩
/-! the mathematics -/
section
variable {P : Program} {w : World} {K : PySem.W.Frag} {mg : Str → Option Value} {base : Heap}
theorem grp_at {H : Hp} {xs : List V} {gs : List Gp} (h : DpAll K H xs (gs.map dGrp)) {i : Nat} {g : Gp} (hg : gs[i]? = some g) : ∃ a p, xs[i]? = some (.ref a) ∧ SqT K H a [.ref p, .int g.2] ∧ SqT K H p (g.1.map V.int) := by
  have hl := DpAll.len h
  rw [List.length_map] at hl
  have hi : i < xs.length := by rw [hl]; exact (List.getElem?_eq_some_iff.mp hg).1
  obtain ⟨d, hd, hx⟩ := DpAll.at h (List.getElem?_eq_getElem hi)
  rw [List.getElem?_map, hg] at hd
  cases hd
  obtain ⟨a, p, e, h1, h2⟩ := grp_ref hx
  exact ⟨a, p, by rw [List.getElem?_eq_getElem hi, e], h1, h2⟩
def spOpt (K : PySem.W.Frag) : Sp := fun vs H Q _ => ∃ (i : Addr) (gi k : Nat) (cs : List Int) (gs : List Gp) (g : Gp), vs = [.ref i, .int gi, .int k] ∧ Dp K H (.ref i) (dInst cs gs) ∧ gs[gi]? = some g ∧ k ≤ g.1.length ∧ Q (optV g.1 k) H
theorem ok_opt {f : Addr} {fd : FuncData} {k : Nat} (F : Fun K "option_post" "option_post" sOpt f fd) (ml : mg "len" = none) : FnOk P w K mg base CX0 (k + 1) f fd ["instance", "group", "option"] (spOpt K) := by
  refine F.ok scOpt (fun vs H Q E h => ?_) (fun cdv A outer s H vs Q E hr h => ?_)
  · obtain ⟨i, gi, k, cs, gs, g, rfl, _⟩ := h; rfl
  · obtain ⟨i, gi, k, cs, gs, g, rfl, hI, hg, hk, q⟩ := h
    refine ⟨_, pss_cons (ps_set (i := 3) scOpt.nd rfl (.inl rfl) (pe_ix ix_tup (pe_ix ix_tup (pe_ix ix_tup (pv 0) pe_int (fun _ _ => rfl)) (pv 1) (fun _ _ => rfl)) pe_int (fun _ _ => rfl)))
      (pss_cons (ps_if (pt_cmpR op_eq (pv 2) (pe_callB call_len_seq (by rfl) ml PySem.boot_len (pa_cons (pv 3) pa_nil)) (nomark _)) (pss_one (ps_ret pe_non)) pss_nil)
      (pss_one (ps_ret (pe_ix ix_tup (pv 3) (pv 2) (fun _ _ => rfl))))), ?_⟩
    obtain ⟨_, ca, ga, xs, e, hi, hc, hgt, hgs⟩ := inst_open hI
    cases e
    obtain ⟨gA, pA, hx, hG, hP⟩ := grp_at hgs hg
    refine ⟨.ref i, rfl, i, _, 1, .ref ga, rfl, rfl, hi, atI_nat (j := 1) rfl, .int gi, rfl, ga, _, _, _, rfl, rfl, hgt, atI_nat hx, gA, _, 0, .ref pA, rfl, rfl, hG, atI_nat (j := 0) rfl, ?_⟩
    refine ⟨.int k, rfl, .ref pA, rfl, pA, _, rfl, .inr hP, rfl, _, rfl, ite2 (fun h1 => ?_) (fun h1 => ?_)⟩
    · have e : (k : Int) = ((g.1.map V.int).length : Nat) := V.int.inj (of_decide_eq_true h1)
      rw [List.length_map] at e
      have hk2 : k = g.1.length := by omega
      have : optV g.1 k = .non := by unfold optV; rw [List.getElem?_eq_none (by omega)]
      rw [this] at q
      exact q
    · have hk2 : k < g.1.length := by
        rcases Nat.lt_or_eq_of_le hk with h | h
        · exact h
        · exact absurd (decide_eq_true (by rw [h, List.length_map])) h1
      have : optV g.1 k = .int g.1[k] := by unfold optV; rw [List.getElem?_eq_getElem hk2]
      rw [this] at q
      exact ⟨.ref pA, rfl, .int k, rfl, pA, _, _, _, rfl, rfl, hP, atI_nat (by rw [List.getElem?_map, List.getElem?_eq_getElem hk2]; rfl), q⟩
def spVec (K : PySem.W.Frag) (r : List Int → List Gp → List Int) : Sp := fun vs H Q _ => ∃ (i : Addr) (cs : List Int) (gs : List Gp), vs = [.ref i] ∧ Dp K H (.ref i) (dInst cs gs) ∧ InsOk cs gs ∧
  ∀ H' p, Same H H' → Dp K H' (.ref p) (dI (r cs gs)) → Q (.ref p) H'
set_option maxHeartbeats 2000000 in
theorem ok_dem {f : Addr} {fd : FuncData} {k : Nat} (F : Fun K "demands" "demands" sDem f fd) (ml : mg "len" = none) (mt : mg "tuple" = none) : FnOk P w K mg base CX0 (k + 1) f fd ["instance"] (spVec K rDem) := by
  refine F.ok scDem (fun vs H Q E h => ?_) (fun cdv A outer s H vs Q E hr h => ?_)
  · obtain ⟨i, cs, gs, rfl, _⟩ := h; rfl
  · obtain ⟨i, cs, gs, rfl, hI, ok, q⟩ := h
    refine ⟨_, pss_cons (ps_set (i := 1) scDem.nd rfl (.inl rfl) (pe_op op_rep (pe_lst (pa_cons pe_int pa_nil)) (pe_callB call_len_seq (by rfl) ml PySem.boot_len (pa_cons (pe_ix ix_tup (pv 0) pe_int (fun _ _ => rfl)) pa_nil))))
      (pss_cons (ps_for PassesOwn.never rfl (pi_tup (pe_ix ix_tup (pv 0) pe_int (fun _ _ => rfl)))
          (pg_tup rfl (pgs_cons (pg_name (i := 2) scDem.nd rfl (.inl rfl)) (pgs_cons (pg_name (i := 3) scDem.nd rfl (.inl rfl)) pgs_nil)))
          (pss_one (ps_if (pt_cmpR op_gt (pe_callB call_len_seq (by rfl) ml PySem.boot_len (pa_cons (pv 2) pa_nil)) pe_int (nomark _))
            (pss_one (ps_augS (pv 1) (pe_ix ix_tup (pv 2) pe_int (fun _ _ => rfl)) get_list (pv 3) ip_add set_list)) pss_nil)))
      (pss_one (ps_ret (pe_callTy call_tuple_of (by rfl) mt (by decide +kernel) (pa_cons (pv 1) pa_nil))))), ?_⟩
    obtain ⟨_, ca, ga, xs, e, hi, hc, hg, hgs⟩ := inst_open hI
    cases e
    have h6 := ok.c6
    refine ⟨by decide, fun p0 n0 => ⟨.ref i, rfl, i, _, 0, .ref ca, rfl, rfl, (TupK.new n0).sq hi, atI_nat (j := 0) rfl, ca, _, rfl, .inr ((TupK.new n0).sq hc), p0, _, _, rfl, rfl, upd_same, by omega, ?_, ?_, fun L nL => ?_⟩⟩
    · rw [List.length_map]; omega
    · rw [List.length_map]; show 1 * _ ≤ sizeLine; have := small (n := cs.length) (by omega); simp; omega
    have fL : H L = none := freeOf nL
    have s1 : Same H (upd (upd H p0 (.lst [.int 0])) L (.lst (List.replicate ((List.map V.int cs).length : Int).toNat [V.int 0]).flatten)) := samePut (sameNew n0) fL
    refine ⟨.ref i, rfl, i, _, 1, .ref ga, rfl, rfl, (TupK.of s1).sq hi, atI_nat (j := 1) rfl, ga, rfl, ⟨_, (TupK.of s1).sq hg⟩, for_it (walk_tup (K := K) (a := ga) (xs := xs))
      (fun i' σ H2 => ∃ y2 y3, σ = [some (.ref i), some (.ref L), y2, y3] ∧ Same H H2 ∧ H2 L = some (.lst ((demOf cs.length (gs.take i')).map V.int)))
      ⟨none, none, rfl, s1, ?_⟩ ?_ ?_ ?_⟩
    · rw [upd_same, List.length_map, Int.toNat_natCast, zeros_V]; rfl
    · rintro i' σ H2 _ ⟨y2, y3, rfl, s2, e2⟩
      exact (TupK.of s2).sq hg
    · rintro i' v σ H2 H3 hlt ⟨y2, y3, rfl, s2, e2⟩ ⟨rfl, hx⟩
      obtain ⟨d, hd, hxd⟩ := DpAll.at hgs hx
      rw [List.getElem?_map] at hd
      obtain ⟨g, hgi, rfl⟩ := Option.map_eq_some_iff.mp hd
      obtain ⟨gA, pA, rfl, hG, hP⟩ := grp_ref hxd
      have tk := TupK.of s2
      have hsn := demOf_snoc (n := cs.length) hgi
      have hgp := (ok.gp g (List.mem_of_getElem? hgi)).2.1
      have hdl := demOf_len cs.length (gs.take i')
      generalize hcur : demOf cs.length (gs.take i') = cur at e2 hsn hdl
      refine ⟨gA, _, rfl, tk.sq hG, rfl, _, _, rfl, _, _, rfl, rfl, ?_⟩
      refine ⟨.ref pA, rfl, pA, _, rfl, .inr (tk.sq hP), _, _, rfl, rfl, _, rfl, ite2 (fun h1 => ?_) (fun h1 => ?_)⟩
      · obtain ⟨pp, ps, hps⟩ : ∃ pp ps, g.1 = pp :: ps := by
          cases hgg : g.1 with
          | nil => rw [hgg] at h1; exact absurd (of_decide_eq_true h1) (by simp)
          | cons a b => exact ⟨a, b, rfl⟩
        have hpr := hgp pp (by rw [hps]; simp)
        obtain ⟨pn, rfl⟩ : ∃ pn : Nat, pp = pn := ⟨pp.toNat, by omega⟩
        have hpl : pn < cur.length := by omega
        refine ⟨.ref L, rfl, .ref pA, rfl, pA, _, 0, .int pn, rfl, rfl, tk.sq hP, atI_nat (j := 0) (by rw [hps]; rfl), L, _, pn, .int cur[pn], rfl, rfl, SqL.of e2, by rw [List.getElem?_map, List.getElem?_eq_getElem hpl]; rfl, .int g.2, rfl, _, _, rfl, rfl, L, _, _, pn, rfl, rfl, e2, ixN_nat (by rw [List.length_map]; exact hpl), ?_⟩
        refine ⟨_, _, rfl, samePut s2 fL, ?_⟩
        rw [upd_same, hsn]
        unfold dAdd
        rw [hps]
        show _ = some (HO.lst ((addAt cur pn g.2).map V.int))
        unfold addAt
        rw [Int.toNat_natCast, List.getD_eq_getElem?_getD, List.getElem?_eq_getElem hpl, List.map_set]
        rfl
      · have hge : g.1 = [] := by
          cases hgg : g.1 with
          | nil => rfl
          | cons a b => rw [hgg] at h1; exact absurd (decide_eq_true (by simp)) h1
        refine ⟨_, _, rfl, s2, ?_⟩
        rw [e2, hsn]
        unfold dAdd
        rw [hge]
    · rintro σ H2 ⟨y2, y3, rfl, s2, e2⟩
      rw [DpAll.len hgs, List.length_map, List.take_length] at e2
      exact ⟨.ref L, rfl, L, _, rfl, .inl ⟨SqL.of e2, fun p np => q _ _ (s2.trans (sameNew np)) (dI_sq (SqT.of upd_same))⟩⟩
end
end Pv

namespace Pv
open PySem PySem.Spec PyProof.Rows L2
section
variable {P : Program} {w : World} {K : PySem.W.Frag} {mg : Str → Option Value} {base : Heap}
theorem ok_exc {f fM : Addr} {fd fdM : FuncData} {k : Nat} (F : Fun K "excesses" "excesses" sExc f fd)
    (FM : Fun K "demands" "demands" sDem fM fdM) (bM : Binds K fdM ["instance"] []) (gM : mg "demands" = some (.ref fM)) (GM : FnOk P w K mg base CX0 1 fM fdM ["instance"] (spVec K rDem))
    (mt : mg "tuple" = none) (mz : mg "zip" = none) (mm : mg "max" = none) : FnOk P w K mg base CX0 (1 + k + 1) f fd ["instance"] (spVec K rExc) := by
  refine F.ok scExc (fun vs H Q E h => ?_) (fun cdv A outer s H vs Q E hr h => ?_)
  · obtain ⟨i, cs, gs, rfl, _⟩ := h; rfl
  · obtain ⟨i, cs, gs, rfl, hI, ok, q⟩ := h
    refine ⟨_, pss_one (ps_ret (pe_callTy call_tuple_of (by rfl) mt (by decide +kernel) (pa_cons
        (pe_lc (own := [("capacity", 1), ("demand", 2)]) (g := gTup K 2 (gCons (gName 1) (gCons (gName 2) gNil))) (tt := tYes) rfl scExc.nd
          (RZ.pi_zipA (by rfl) mz (pa_cons (pe_ix ix_tup (pv 0) pe_int (fun _ _ => rfl)) (pa_cons (pe_call GM (hr.mono (by omega)) (by rfl) gM FM.kp bM .nil pass0 (pa_cons (pv 0) pa_nil)) pa_nil))) (blkOk_by (N := ["instance", "capacity", "demand"]) (sc := defScope sExc) (by decide +kernel))
          (fun _ _ _ _ _ => pg_tup rfl (pgs_cons (pg_name (i := 1) scExc.nd rfl (.inl rfl)) (pgs_cons (pg_name (i := 2) scExc.nd rfl (.inl rfl)) pgs_nil))) (fun _ _ _ _ _ => pts_nil)
          (fun _ _ _ _ _ => pe_callB (call_max2 rfl) (by rfl) mm (by decide +kernel) (pa_cons pe_int (pa_cons (pe_op op_sub (pv 2) (pv 1)) pa_nil)))) pa_nil))), ?_⟩
    obtain ⟨_, ca, ga, xs, e, hi, hc, hg, hgs⟩ := inst_open hI
    cases e
    have h6 := ok.c6
    refine ⟨.ref i, rfl, i, _, 0, .ref ca, rfl, rfl, hi, atI_nat (j := 0) rfl, .ref i, rfl, i, cs, gs, rfl, hI, ok, fun H1 dm s1 hdm => ?_⟩
    have hD := sq_dI hdm
    have hc1 := (TupK.of s1).sq hc
    refine ⟨ca, dm, _, _, rfl, .inr ⟨hc1, hD, fun D nD => lc_it (walk_zipT (K := K) (a := ca) (b := dm) (xs := cs.map V.int) (ys := (rDem cs gs).map V.int) rfl)
      (fun j H2 => Same H1 H2 ∧ H2 D = some (.lst ((((cs.take j).zip ((rDem cs gs).take j)).map (fun q => mx (q.2 - q.1))).map V.int))) ⟨sameNew nD, upd_same⟩ (fun j H2 _ h2 => ⟨(TupK.of h2.1).sq hc1, (TupK.of h2.1).sq hD⟩) ?_ ?_⟩⟩
    · rintro j v H2 H3 hlt ⟨s2, e2⟩ ⟨T, x, y, rfl, nT, rfl, hx, hy⟩
      have hx' : (cs.map V.int)[j]? = some x := hx
      have hy' : ((rDem cs gs).map V.int)[j]? = some y := hy
      rw [List.getElem?_map] at hx' hy'
      obtain ⟨c, hcj, rfl⟩ := Option.map_eq_some_iff.mp hx'
      obtain ⟨d, hdj, rfl⟩ := Option.map_eq_some_iff.mp hy'
      have hjl : j < cs.length := (List.getElem?_eq_some_iff.mp hcj).1
      refine ⟨T, _, rfl, SqT.of upd_same, rfl, _, _, rfl, _, _, rfl, rfl, rfl, .int d, rfl, .int c, rfl, _, _, rfl, rfl, _, _, rfl, _, upNew nT e2, ?_, samePut (s2.trans (sameNew nT)) nD, ?_⟩
      · rw [List.length_map, List.length_map, List.length_zip, List.length_take, List.length_take]; exact small (by omega)
      · rw [upd_same, zip_snoc hcj hdj, List.map_append, List.map_append]; rfl
    · rintro H2 ⟨s2, e2⟩
      rw [List.length_map, List.length_map, zip_take, List.take_of_length_le (by rw [List.length_zip]; exact Nat.le_refl _)] at e2
      exact ⟨D, _, rfl, .inl ⟨SqL.of e2, fun p np => q _ _ ((s1.trans s2).trans (sameNew np)) (dI_sq (SqT.of upd_same))⟩⟩
theorem ok_fre {f fM : Addr} {fd fdM : FuncData} {k : Nat} (F : Fun K "free_places" "free_places" sFre f fd)
    (FM : Fun K "demands" "demands" sDem fM fdM) (bM : Binds K fdM ["instance"] []) (gM : mg "demands" = some (.ref fM)) (GM : FnOk P w K mg base CX0 1 fM fdM ["instance"] (spVec K rDem))
    (mt : mg "tuple" = none) (mz : mg "zip" = none) (mm : mg "max" = none) : FnOk P w K mg base CX0 (1 + k + 1) f fd ["instance"] (spVec K rFre) := by
  refine F.ok scFre (fun vs H Q E h => ?_) (fun cdv A outer s H vs Q E hr h => ?_)
  · obtain ⟨i, cs, gs, rfl, _⟩ := h; rfl
  · obtain ⟨i, cs, gs, rfl, hI, ok, q⟩ := h
    refine ⟨_, pss_one (ps_ret (pe_callTy call_tuple_of (by rfl) mt (by decide +kernel) (pa_cons
        (pe_lc (own := [("capacity", 1), ("demand", 2)]) (g := gTup K 2 (gCons (gName 1) (gCons (gName 2) gNil))) (tt := tYes) rfl scFre.nd
          (RZ.pi_zipA (by rfl) mz (pa_cons (pe_ix ix_tup (pv 0) pe_int (fun _ _ => rfl)) (pa_cons (pe_call GM (hr.mono (by omega)) (by rfl) gM FM.kp bM .nil pass0 (pa_cons (pv 0) pa_nil)) pa_nil))) (blkOk_by (N := ["instance", "capacity", "demand"]) (sc := defScope sFre) (by decide +kernel))
          (fun _ _ _ _ _ => pg_tup rfl (pgs_cons (pg_name (i := 1) scFre.nd rfl (.inl rfl)) (pgs_cons (pg_name (i := 2) scFre.nd rfl (.inl rfl)) pgs_nil))) (fun _ _ _ _ _ => pts_nil)
          (fun _ _ _ _ _ => pe_callB (call_max2 rfl) (by rfl) mm (by decide +kernel) (pa_cons pe_int (pa_cons (pe_op op_sub (pv 1) (pv 2)) pa_nil)))) pa_nil))), ?_⟩
    obtain ⟨_, ca, ga, xs, e, hi, hc, hg, hgs⟩ := inst_open hI
    cases e
    have h6 := ok.c6
    refine ⟨.ref i, rfl, i, _, 0, .ref ca, rfl, rfl, hi, atI_nat (j := 0) rfl, .ref i, rfl, i, cs, gs, rfl, hI, ok, fun H1 dm s1 hdm => ?_⟩
    have hD := sq_dI hdm
    have hc1 := (TupK.of s1).sq hc
    refine ⟨ca, dm, _, _, rfl, .inr ⟨hc1, hD, fun D nD => lc_it (walk_zipT (K := K) (a := ca) (b := dm) (xs := cs.map V.int) (ys := (rDem cs gs).map V.int) rfl)
      (fun j H2 => Same H1 H2 ∧ H2 D = some (.lst ((((cs.take j).zip ((rDem cs gs).take j)).map (fun q => mx (q.1 - q.2))).map V.int))) ⟨sameNew nD, upd_same⟩ (fun j H2 _ h2 => ⟨(TupK.of h2.1).sq hc1, (TupK.of h2.1).sq hD⟩) ?_ ?_⟩⟩
    · rintro j v H2 H3 hlt ⟨s2, e2⟩ ⟨T, x, y, rfl, nT, rfl, hx, hy⟩
      have hx' : (cs.map V.int)[j]? = some x := hx
      have hy' : ((rDem cs gs).map V.int)[j]? = some y := hy
      rw [List.getElem?_map] at hx' hy'
      obtain ⟨c, hcj, rfl⟩ := Option.map_eq_some_iff.mp hx'
      obtain ⟨d, hdj, rfl⟩ := Option.map_eq_some_iff.mp hy'
      have hjl : j < cs.length := (List.getElem?_eq_some_iff.mp hcj).1
      refine ⟨T, _, rfl, SqT.of upd_same, rfl, _, _, rfl, _, _, rfl, rfl, rfl, .int c, rfl, .int d, rfl, _, _, rfl, rfl, _, _, rfl, _, upNew nT e2, ?_, samePut (s2.trans (sameNew nT)) nD, ?_⟩
      · rw [List.length_map, List.length_map, List.length_zip, List.length_take, List.length_take]; exact small (by omega)
      · rw [upd_same, zip_snoc hcj hdj, List.map_append, List.map_append]; rfl
    · rintro H2 ⟨s2, e2⟩
      rw [List.length_map, List.length_map, zip_take, List.take_of_length_le (by rw [List.length_zip]; exact Nat.le_refl _)] at e2
      exact ⟨D, _, rfl, .inl ⟨SqL.of e2, fun p np => q _ _ ((s1.trans s2).trans (sameNew np)) (dI_sq (SqT.of upd_same))⟩⟩
theorem ok_cla {f fM : Addr} {fd fdM : FuncData} {k : Nat} (F : Fun K "claimed_posts" "claimed_posts" sCla f fd)
    (FM : Fun K "free_places" "free_places" sFre fM fdM) (bM : Binds K fdM ["instance"] []) (gM : mg "free_places" = some (.ref fM)) (GM : FnOk P w K mg base CX0 2 fM fdM ["instance"] (spVec K rFre))
    (mt : mg "tuple" = none) (me : mg "enumerate" = none) : FnOk P w K mg base CX0 (2 + k + 1) f fd ["instance"] (spVec K rCla) := by
  refine F.ok scCla (fun vs H Q E h => ?_) (fun cdv A outer s H vs Q E hr h => ?_)
  · obtain ⟨i, cs, gs, rfl, _⟩ := h; rfl
  · obtain ⟨i, cs, gs, rfl, hI, ok, q⟩ := h
    refine ⟨_, pss_one (ps_ret (pe_callTy call_tuple_of (by rfl) mt (by decide +kernel) (pa_cons
        (pe_lc (own := [("post", 1), ("places", 2)]) (g := gTup K 2 (gCons (gName 1) (gCons (gName 2) gNil))) (tt := tTest (tOp rEq (tVar 2) (tC (.int 0)))) (te := tVar 1) rfl scCla.nd
          (pi_enumT (by rfl) me (pa_cons (pe_call GM (hr.mono (by omega)) (by rfl) gM FM.kp bM .nil pass0 (pa_cons (pv 0) pa_nil)) pa_nil)) (blkOk_by (N := ["instance", "post", "places"]) (sc := defScope sCla) (by decide +kernel))
          (fun _ _ _ _ _ => pg_tup rfl (pgs_cons (pg_name (i := 1) scCla.nd rfl (.inl rfl)) (pgs_cons (pg_name (i := 2) scCla.nd rfl (.inl rfl)) pgs_nil)))
          (fun _ _ _ _ _ => pts_one (pt_cmpR op_eq (pv 2) pe_int (nomark _)))
          (fun _ _ _ _ _ => pv 1)) pa_nil))), ?_⟩
    have h6 := ok.c6
    refine ⟨.ref i, rfl, i, cs, gs, rfl, hI, ok, fun H1 dm s1 hdm => ?_⟩
    have hD := sq_dI hdm
    refine ⟨dm, _, rfl, hD, fun D nD => lc_it (walk_enumT (K := K) (a := dm) (xs := (rFre cs gs).map V.int))
      (fun j H2 => Same H1 H2 ∧ H2 D = some (.lst ((sel (fun x => decide (x = 0)) (rFre cs gs) j).map V.int))) ⟨sameNew nD, upd_same⟩ (fun j H2 _ h2 => (TupK.of h2.1).sq hD) ?_ ?_⟩
    · rintro j v H2 H3 hlt ⟨s2, e2⟩ ⟨T, x, y, rfl, nT, rfl, hx, hy⟩
      have hx' : some (V.int (j : Nat)) = some x := hx
      cases hx'
      have hy' : ((rFre cs gs).map V.int)[j]? = some y := hy
      rw [List.getElem?_map] at hy'
      obtain ⟨d, hdj, rfl⟩ := Option.map_eq_some_iff.mp hy'
      have hjl : j < cs.length := by have := (List.getElem?_eq_some_iff.mp hdj).1; rw [rFre_len] at this; exact this
      have hs := sel_succ (fun x => decide (x = 0)) (rFre cs gs) hdj
      have e3 := upNew (o := .tup [.int (j : Nat), .int d]) nT e2
      have s3 := s2.trans (sameNew (o := .tup [.int (j : Nat), .int d]) nT)
      refine ⟨T, _, rfl, SqT.of upd_same, rfl, _, _, rfl, _, _, rfl, rfl, rfl, .int d, rfl, rfl, _, rfl, ite2 (fun h1 => ?_) (fun h1 => ?_)⟩
      · have h0 : d = 0 := V.int.inj (of_decide_eq_true h1)
        refine ⟨.int (j : Nat), rfl, _, e3, ?_, samePut s3 nD, ?_⟩
        · rw [List.length_map]; exact small (Nat.le_trans (sel_len ..) (by omega))
        · rw [upd_same, hs, h0, List.map_append]; rfl
      · have h0 : d ≠ 0 := fun z => h1 (decide_eq_true (by rw [z]))
        refine ⟨s3, ?_⟩
        rw [e3, hs, if_neg (by simpa using h0), List.append_nil]
    · rintro H2 ⟨s2, e2⟩
      rw [List.length_map, rFre_len] at e2
      exact ⟨D, _, rfl, .inl ⟨SqL.of e2, fun p np => q _ _ ((s1.trans s2).trans (sameNew np)) (dI_sq (SqT.of upd_same))⟩⟩
theorem ok_cro {f fM : Addr} {fd fdM : FuncData} {k : Nat} (F : Fun K "crowded_posts" "crowded_posts" sCro f fd)
    (FM : Fun K "excesses" "excesses" sExc fM fdM) (bM : Binds K fdM ["instance"] []) (gM : mg "excesses" = some (.ref fM)) (GM : FnOk P w K mg base CX0 2 fM fdM ["instance"] (spVec K rExc))
    (mt : mg "tuple" = none) (me : mg "enumerate" = none) : FnOk P w K mg base CX0 (2 + k + 1) f fd ["instance"] (spVec K rCro) := by
  refine F.ok scCro (fun vs H Q E h => ?_) (fun cdv A outer s H vs Q E hr h => ?_)
  · obtain ⟨i, cs, gs, rfl, _⟩ := h; rfl
  · obtain ⟨i, cs, gs, rfl, hI, ok, q⟩ := h
    refine ⟨_, pss_one (ps_ret (pe_callTy call_tuple_of (by rfl) mt (by decide +kernel) (pa_cons
        (pe_lc (own := [("post", 1), ("excess", 2)]) (g := gTup K 2 (gCons (gName 1) (gCons (gName 2) gNil))) (tt := tTest (tOp (rI0 fun i j => .bl (decide (j < i))) (tVar 2) (tC (.int 0)))) (te := tVar 1) rfl scCro.nd
          (pi_enumT (by rfl) me (pa_cons (pe_call GM (hr.mono (by omega)) (by rfl) gM FM.kp bM .nil pass0 (pa_cons (pv 0) pa_nil)) pa_nil)) (blkOk_by (N := ["instance", "post", "excess"]) (sc := defScope sCro) (by decide +kernel))
          (fun _ _ _ _ _ => pg_tup rfl (pgs_cons (pg_name (i := 1) scCro.nd rfl (.inl rfl)) (pgs_cons (pg_name (i := 2) scCro.nd rfl (.inl rfl)) pgs_nil)))
          (fun _ _ _ _ _ => pts_one (pt_cmpR op_gt (pv 2) pe_int (nomark _)))
          (fun _ _ _ _ _ => pv 1)) pa_nil))), ?_⟩
    have h6 := ok.c6
    refine ⟨.ref i, rfl, i, cs, gs, rfl, hI, ok, fun H1 dm s1 hdm => ?_⟩
    have hD := sq_dI hdm
    refine ⟨dm, _, rfl, hD, fun D nD => lc_it (walk_enumT (K := K) (a := dm) (xs := (rExc cs gs).map V.int))
      (fun j H2 => Same H1 H2 ∧ H2 D = some (.lst ((sel (fun x => decide (0 < x)) (rExc cs gs) j).map V.int))) ⟨sameNew nD, upd_same⟩ (fun j H2 _ h2 => (TupK.of h2.1).sq hD) ?_ ?_⟩
    · rintro j v H2 H3 hlt ⟨s2, e2⟩ ⟨T, x, y, rfl, nT, rfl, hx, hy⟩
      have hx' : some (V.int (j : Nat)) = some x := hx
      cases hx'
      have hy' : ((rExc cs gs).map V.int)[j]? = some y := hy
      rw [List.getElem?_map] at hy'
      obtain ⟨d, hdj, rfl⟩ := Option.map_eq_some_iff.mp hy'
      have hjl : j < cs.length := by have := (List.getElem?_eq_some_iff.mp hdj).1; rw [rExc_len] at this; exact this
      have hs := sel_succ (fun x => decide (0 < x)) (rExc cs gs) hdj
      have e3 := upNew (o := .tup [.int (j : Nat), .int d]) nT e2
      have s3 := s2.trans (sameNew (o := .tup [.int (j : Nat), .int d]) nT)
      refine ⟨T, _, rfl, SqT.of upd_same, rfl, _, _, rfl, _, _, rfl, rfl, rfl, .int d, rfl, _, _, rfl, rfl, _, rfl, ite2 (fun h1 => ?_) (fun h1 => ?_)⟩
      · have h0 : 0 < d := of_decide_eq_true h1
        refine ⟨.int (j : Nat), rfl, _, e3, ?_, samePut s3 nD, ?_⟩
        · rw [List.length_map]; exact small (Nat.le_trans (sel_len ..) (by omega))
        · rw [upd_same, hs, if_pos (by simpa using h0), List.map_append]; rfl
      · have h0 : ¬ 0 < d := fun z => h1 (decide_eq_true z)
        refine ⟨s3, ?_⟩
        rw [e3, hs, if_neg (by simpa using h0), List.append_nil]
    · rintro H2 ⟨s2, e2⟩
      rw [List.length_map, rExc_len] at e2
      exact ⟨D, _, rfl, .inl ⟨SqL.of e2, fun p np => q _ _ ((s1.trans s2).trans (sameNew np)) (dI_sq (SqT.of upd_same))⟩⟩
def spRes (K : PySem.W.Frag) : Sp := fun vs H Q _ => ∃ (i : Addr) (gi : Nat) (cs : List Int) (gs : List Gp) (g : Gp), vs = [.ref i, .int gi] ∧ Dp K H (.ref i) (dInst cs gs) ∧ InsOk cs gs ∧ gs[gi]? = some g ∧
  ∀ H', Same H H' → Q (.int (resOf g.1 (rCla cs gs))) H'
theorem ok_res {f fM : Addr} {fd fdM : FuncData} {k : Nat} (F : Fun K "reserve_option" "reserve_option" sRes f fd)
    (FM : Fun K "claimed_posts" "claimed_posts" sCla fM fdM) (bM : Binds K fdM ["instance"] []) (gM : mg "claimed_posts" = some (.ref fM)) (GM : FnOk P w K mg base CX0 3 fM fdM ["instance"] (spVec K rCla))
    (mr : mg "range" = none) (ml : mg "len" = none) : FnOk P w K mg base CX0 (3 + k + 1) f fd ["instance", "group"] (spRes K) := by
  refine F.ok scRes (fun vs H Q E h => ?_) (fun cdv A outer s H vs Q E hr h => ?_)
  · obtain ⟨i, gi, cs, gs, g, rfl, _⟩ := h; rfl
  · obtain ⟨i, gi, cs, gs, g, rfl, hI, ok, hg, q⟩ := h
    refine ⟨_, pss_cons (ps_set (i := 2) scRes.nd rfl (.inl rfl) (pe_ix ix_tup (pe_ix ix_tup (pe_ix ix_tup (pv 0) pe_int (fun _ _ => rfl)) (pv 1) (fun _ _ => rfl)) pe_int (fun _ _ => rfl)))
      (pss_cons (ps_set (i := 3) scRes.nd rfl (.inl rfl) (pe_call GM (hr.mono (by omega)) (by rfl) gM FM.kp bM .nil pass0 (pa_cons (pv 0) pa_nil)))
      (pss_cons (ps_for PassesOwn.never rfl (pi_range2 (by rfl) mr (pa_cons pe_int (pa_cons (pe_callB call_len_seq (by rfl) ml PySem.boot_len (pa_cons (pv 2) pa_nil)) pa_nil))) (pg_name (i := 4) scRes.nd rfl (.inl rfl))
        (pss_one (ps_if (pt_cmpR op_notIn_seq (pe_ix ix_tup (pv 2) (pv 4) (fun _ _ => rfl)) (pv 3) rfl) (pss_one (ps_ret (pv 4))) pss_nil)))
      (pss_one (ps_ret (pe_callB call_len_seq (by rfl) ml PySem.boot_len (pa_cons (pv 2) pa_nil)))))), ?_⟩
    obtain ⟨_, ca, ga, xs, e, hi, hc, hgt, hgs⟩ := inst_open hI
    cases e
    obtain ⟨gA, pA, hx, hG, hP⟩ := grp_at hgs hg
    have hgl := (ok.gp g (List.mem_of_getElem? hg)).1
    refine ⟨.ref i, rfl, i, _, 1, .ref ga, rfl, rfl, hi, atI_nat (j := 1) rfl, .int gi, rfl, ga, _, _, _, rfl, rfl, hgt, atI_nat hx, gA, _, 0, .ref pA, rfl, rfl, hG, atI_nat (j := 0) rfl, ?_⟩
    refine ⟨.ref i, rfl, i, cs, gs, rfl, hI, ok, fun H1 cl s1 hcl => ?_⟩
    have hC := sq_dI hcl
    have hP1 := (TupK.of s1).sq hP
    refine ⟨.ref pA, rfl, pA, _, rfl, .inr hP1, 1, _, rfl, ⟨by omega, by omega, by omega, by rw [List.length_map]; omega⟩, for_it (walk_range (lo := 1) (n := (((List.map V.int g.1).length : Int) - 1).toNat))
      (fun j σ H2 => ∃ y4, σ = [some (.ref i), some (.int gi), some (.ref pA), some (.ref cl), y4] ∧ H2 = H1 ∧ ∀ k, 1 ≤ k → k < 1 + j → isFree g.1 (rCla cs gs) k = false)
      ⟨none, rfl, rfl, fun k h1 h2 => by omega⟩ (fun _ _ _ _ _ => trivial) ?_ ?_⟩
    · rintro j v σ H2 H3 hlt ⟨y4, rfl, rfl, hno⟩ ⟨rfl, rfl⟩
      rw [List.length_map] at hlt
      have hj1 : 1 + j < g.1.length := by omega
      have e1 : (1 : Int) + (j : Nat) = ((1 + j : Nat) : Int) := by omega
      have hpv : (g.1.map V.int)[1 + j]? = some (.int g.1[1 + j]) := by rw [List.getElem?_map, List.getElem?_eq_getElem hj1]; rfl
      dsimp only
      rw [e1]
      refine ⟨.ref pA, rfl, .int ((1 + j : Nat) : Int), rfl, pA, _, _, _, rfl, rfl, hP1, atI_nat hpv, .ref cl, rfl, cl, _, rfl, .inr hC, rfl, flat_ints _, _, rfl, ?_⟩
      have hfr : isFree g.1 (rCla cs gs) (1 + j) = !(inV (.int g.1[1 + j]) ((rCla cs gs).map V.int)) := by
        unfold isFree
        rw [inV_ints, List.getD_eq_getElem?_getD, List.getElem?_eq_getElem hj1]; rfl
      refine ite2 (fun h1 => ?_) (fun h1 => ?_)
      · have hf : isFree g.1 (rCla cs gs) (1 + j) = true := by rw [hfr]; exact h1
        have hr : resOf g.1 (rCla cs gs) = 1 + j := by
          unfold resOf
          have : (List.range' 1 (g.1.length - 1)).find? (isFree g.1 (rCla cs gs)) = some (1 + j) := by
            rw [List.find?_range'_eq_some]
            refine ⟨hf, by rw [List.mem_range'_1]; omega, fun k h1 h2 => by rw [hno k h1 h2]; rfl⟩
          rw [this]; rfl
        have := q _ s1
        rw [hr] at this
        exact ⟨_, rfl, this⟩
      · have hf : isFree g.1 (rCla cs gs) (1 + j) = false := by rw [hfr]; exact Bool.eq_false_iff.mpr h1
        refine ⟨_, rfl, rfl, fun k h1 h2 => ?_⟩
        rcases Nat.lt_or_ge k (1 + j) with h | h
        · exact hno k h1 h
        · have : k = 1 + j := by omega
          rw [this]; exact hf
    · rintro σ H2 ⟨y4, rfl, rfl, hno⟩
      rw [List.length_map] at hno
      have hr : resOf g.1 (rCla cs gs) = g.1.length := by
        unfold resOf
        have : (List.range' 1 (g.1.length - 1)).find? (isFree g.1 (rCla cs gs)) = none := by
          rw [List.find?_range'_eq_none]
          intro k h1 h2
          rw [hno k h1 (by omega)]; rfl
        rw [this]; rfl
      have := q _ s1
      rw [hr] at this
      refine ⟨.ref pA, rfl, pA, _, rfl, .inr hP1, ?_⟩
      rw [List.length_map]
      exact this
end
end Pv

namespace Pv
open PySem PySem.Spec PyProof.Rows L2
abbrev zn1 (h : Heap) (l1 : Addr) : Heap := h.push { cls := .type "tuple_iterator", data := .fields #[.ref l1, .int 0 0] }
abbrev zn2 (h : Heap) (l1 l2 : Addr) : Heap := (zn1 h l1).push { cls := .type "list_iterator", data := .fields #[.ref l2, .int 0 0] }
abbrev zn3 (h : Heap) (l1 l2 : Addr) : Heap := (zn2 h l1 l2).push { cls := .type "tuple", data := .seq #[.ref h.objs.size, .ref (zn1 h l1).objs.size] }
abbrev zn4 (h : Heap) (l1 l2 : Addr) : Heap := (zn3 h l1 l2).push { cls := .type "tuple", data := .seq #[.none, .none] }
abbrev zn5 (h : Heap) (l1 l2 : Addr) : Heap := (zn4 h l1 l2).push { cls := .type "zip", data := .fields #[.none, .bool false, .bool false, .ref (zn2 h l1 l2).objs.size, .ref (zn3 h l1 l2).objs.size] }
theorem zipN_new (l1 l2 : Addr) (xs ys : Array Value) :
    Meets (Builtin.«zip.__new__» ⟨[.type "zip", .ref l1, .ref l2], []⟩) (fun _ R s => s.heap.IsTuple l1 xs ∧ s.heap.IsList l2 ys ∧
      R (.ok (.ret (.ref (zn4 s.heap l1 l2).objs.size))) { s with heap := zn5 s.heap l1 l2 }) :=
  .of_wp fun prog w A R s h => by
    obtain ⟨hp, g, d, tk, os⟩ := s
    obtain ⟨hl1, hl2, h⟩ := h
    have hsub := sub_zip
    have hL1 : Heap.IsTuple (Shared.heap ⟨hp, g, d, tk, os⟩) l1 xs := hl1
    have hL2 : Heap.IsList (Shared.heap ⟨zn1 hp l1, g, d, tk, os⟩) l2 ys := Heap.IsList.push hl2 _
    wp_walk using wpAny_pyIter_tuple hL1, wpAny_pyIter_list hL2
    exact ⟨_, rfl, h⟩
theorem call_zipN {prog : Program} {w : World} {A : Around} {E : Value → Shared → Prop} {s : Shared} {l1 l2 : Addr} {xs ys : Array Value} {Q : Value → Shared → Prop} (hl1 : s.heap.IsTuple l1 xs) (hl2 : s.heap.IsList l2 ys)
    (h : ∀ h', IsZip h' (s.heap.objs.size + 4) (s.heap.objs.size + 2) (s.heap.objs.size + 3) .none → IsPair h' (s.heap.objs.size + 2) (.ref s.heap.objs.size) (.ref (s.heap.objs.size + 1)) →
      IsPair h' (s.heap.objs.size + 3) .none .none → h'.IsTupleIter s.heap.objs.size l1 0 → h'.IsListIter (s.heap.objs.size + 1) l2 0 →
      (∀ c o, s.heap.get? c = some o → h'.get? c = some o) → Q (.ref (s.heap.objs.size + 4)) { s with heap := h' }) :
    wpAny (model prog w) A (call (.type "zip") [.ref l1, .ref l2]) Q E s := by
  refine callType_new F.called_zip (by decide) (F.typeCall_zip_2 _ _) (F.newCall_zip_2 _ _) (fun obj => F.args_object_init_3 obj _ _) F.entry_zip_new (zipN_new l1 l2 xs ys) ⟨hl1, hl2, ?_⟩
  have z1 : (zn1 s.heap l1).objs.size = s.heap.objs.size + 1 := Heap.size_push ..
  have z2 : (zn2 s.heap l1 l2).objs.size = s.heap.objs.size + 2 := by rw [Heap.size_push, z1]
  have z3 : (zn3 s.heap l1 l2).objs.size = s.heap.objs.size + 3 := by rw [Heap.size_push, z2]
  have z4 : (zn4 s.heap l1 l2).objs.size = s.heap.objs.size + 4 := by rw [Heap.size_push, z3]
  have g5 : (zn5 s.heap l1 l2).get? (zn4 s.heap l1 l2).objs.size = some _ := Heap.get?_push_size _ rfl
  have g4 : (zn5 s.heap l1 l2).get? (zn3 s.heap l1 l2).objs.size = some _ := Heap.get?_push_of_some _ (Heap.get?_push_size _ rfl)
  have g3 : (zn5 s.heap l1 l2).get? (zn2 s.heap l1 l2).objs.size = some _ := Heap.get?_push_of_some _ (Heap.get?_push_of_some _ (Heap.get?_push_size _ rfl))
  have g2 : (zn5 s.heap l1 l2).get? (zn1 s.heap l1).objs.size = some _ := Heap.get?_push_of_some _ (Heap.get?_push_of_some _ (Heap.get?_push_of_some _ (Heap.get?_push_size _ rfl)))
  have g1 : (zn5 s.heap l1 l2).get? s.heap.objs.size = some _ := Heap.get?_push_of_some _ (Heap.get?_push_of_some _ (Heap.get?_push_of_some _ (Heap.get?_push_of_some _ (Heap.get?_push_size _ rfl))))
  show _ ∧ _
  rw [z2, z3, z4] at g5
  rw [z1, z2] at g3
  rw [z3] at g4
  rw [z1] at g2
  rw [z4]
  refine ⟨⟨_, g5, rfl⟩, h _ g5 g3 g4 ⟨_, g1, rfl, rfl⟩ ⟨_, g2, rfl, rfl⟩ ?_⟩
  intro c o x
  exact Heap.get?_push_of_some _ (Heap.get?_push_of_some _ (Heap.get?_push_of_some _ (Heap.get?_push_of_some _ (Heap.get?_push_of_some _ x))))
def ItzN (K : PySem.W.Frag) (a b : Addr) : It :=
  ⟨fun i H => ∃ (xs ys : List V) (x y : V), SqT K H a xs ∧ SqL K H b ys ∧ xs[i]? = some x ∧ ys[i]? = some y,
   fun i H v H' => ∃ T x y, v = .ref T ∧ H T = none ∧ H' = upd H T (.tup [x, y]) ∧ (∀ xs, SqT K H a xs → xs[i]? = some x) ∧ ∀ ys, SqL K H b ys → ys[i]? = some y,
   fun i H => ∃ xs ys : List V, SqT K H a xs ∧ SqL K H b ys ∧ min xs.length ys.length = i⟩
theorem turn_zipN {P : Program} {w : World} {K : PySem.W.Frag} {elts : List Expr} {kk : Nat} {tpos : Pos} {a b z TI TO i1 i2 : Addr} (D : ZipApart z TI TO i1 i2 a b) :
    Turn P w K (.Tuple elts kk tpos) (ItzN K a b) [z, TI, TO, i1, i2] z
      (fun i h => IsZip h z TI TO .none ∧ IsPair h TI (.ref i1) (.ref i2) ∧ (∃ x y, IsPair h TO x y) ∧ h.IsTupleIter i1 a i ∧ h.IsListIter i2 b i) where
  mem := by simp
  obj := by
    rintro i h ⟨hz, hTI, ⟨x, y, hTO⟩, ⟨o1, e1, _, d1⟩, ⟨o2, e2, _, d2⟩⟩ c hc
    simp only [List.mem_cons, List.not_mem_nil, or_false] at hc
    rcases hc with rfl | rfl | rfl | rfl | rfl
    · exact ⟨_, hz, fun v q => nomatch q⟩
    · exact ⟨_, hTI, fun v q => nomatch q⟩
    · exact ⟨_, hTO, fun v q => nomatch q⟩
    · exact ⟨o1, e1, fun v q => by rw [d1] at q; cases q⟩
    · exact ⟨o2, e2, fun v q => by rw [d2] at q; cases q⟩
  keep := by
    rintro i h h' ⟨hz, hTI, ⟨x, y, hTO⟩, h1, h2⟩ k
    exact ⟨k z (by simp) _ hz, k TI (by simp) _ hTI, ⟨x, y, k TO (by simp) _ hTO⟩, h1.at fun o q => k i1 (by simp) o q, h2.at fun o q => k i2 (by simp) o q⟩
  item := by
    intro X hP hw hK hc i pins s σ H E I hf st hg
    subst hP hw hK
    obtain ⟨hz, hTI, ⟨x0, y0, hTO⟩, h1, h2⟩ := st
    obtain ⟨xs, ys, x, y, hqx, hqy, hx, hy⟩ := hg
    obtain ⟨its, rv, p, _⟩ := I.tuple hqx
    obtain ⟨its2, rv2, p2, _⟩ := I.list hqy
    obtain ⟨u, hu, ru⟩ := rv.get hx
    obtain ⟨u2, hu2, ru2⟩ := rv2.get hy
    have hzl : z < s.heap.objs.size := Heap.lt_size hz
    have hl1 : i < its.toArray.size := by have := (List.getElem?_eq_some_iff.mp hu).1; simpa using this
    have hl2 : i < its2.toArray.size := by have := (List.getElem?_eq_some_iff.mp hu2).1; simpa using this
    refine wpAny_pyNext_zipD2_item (sepM D) (Draws.tuple (A := X.A.in1) (I.ok.hd hc) i1 a D.l1i1 its.toArray) (Draws.list (A := X.A.in1) (I.ok.hd hc) i2 b D.l2i2 its2.toArray) hz hTI hTO ⟨h1, p⟩ ⟨h2, p2.isList⟩ hl1 hl2 ?_
    intro v1 v2 h' tk hv1 hv2 z' TO' st1 st2 hT hsz hk
    have e1 : v1 = u := by
      have h3 : its.toArray[i]? = some u := by simpa using hu
      rw [show its.toArray[i]? = some v1 from hv1] at h3
      exact Option.some.inj h3
    have e2 : v2 = u2 := by
      have h3 : its2.toArray[i]? = some u2 := by simpa using hu2
      rw [show its2.toArray[i]? = some v2 from hv2] at h3
      exact Option.some.inj h3
    subst e1 e2
    refine ⟨_, rfl, wpAny_letOwnedTupleGo_zip (s := { s with heap := h', toks := tk }) z' fun h'' z'' sb => ?_⟩
    have hT2 : h''.get? s.heap.objs.size = some { cls := .type "tuple", data := .seq #[v1, v2] } := (sb.2 _ (Nat.ne_of_gt hzl)).trans hT
    have new : ObjOk X.prog X.w (upd H s.heap.objs.size (.tup [x, y])) h'' s.heap.objs.size (.tup [x, y]) :=
      ⟨by show 2 ≤ sizeLine; decide, [v1, v2], .cons ru (.cons ru2 .nil), ⟨_, hT2, rfl, _, rfl⟩⟩
    have kk : ∀ c o, c ∉ [z, TI, TO, i1, i2] → s.heap.get? c = some o → h''.get? c = some o := by
      intro c o hb q
      simp only [List.mem_cons, List.not_mem_nil, or_false, not_or] at hb
      exact (sb.2 c hb.1).trans (hk c o hb.1 hb.2.2.1 hb.2.2.2.1 hb.2.2.2.2 q)
    have I1 : Inv X pins σ (upd H s.heap.objs.size (.tup [x, y])) { s with heap := h'', toks := tk } :=
      I.turnedNew (t' := tk) (ch := [z, TI, TO, i1, i2]) kk hf (Nat.le_refl _) new
    refine ⟨.ref s.heap.objs.size, _, I1, rfl, ⟨_, x, y, rfl, I.hok.fresh (Nat.le_refl _), rfl, fun l hl => by rw [I.tuple_inj hl hqx]; exact hx, fun l hl => by rw [I.list_inj hl hqy]; exact hy⟩, ⟨z'', ?_, ⟨v1, v2, ?_⟩, ?_, ?_⟩, ?_⟩
    · exact (sb.2 _ D.TIz).trans (hk _ _ D.TIz D.TITO D.TIi1 D.TIi2 hTI)
    · exact (sb.2 _ D.TOz).trans TO'
    · exact st1.1.at fun o q => (sb.2 _ D.i1z).trans q
    · exact st2.1.at fun o q => (sb.2 _ D.i2z).trans q
    · intro c hcm
      have hlt : c < s.heap.objs.size := by
        simp only [List.mem_cons, List.not_mem_nil, or_false] at hcm
        rcases hcm with rfl | rfl | rfl | rfl | rfl
        · exact hzl
        · exact Heap.lt_size hTI
        · exact Heap.lt_size hTO
        · obtain ⟨_, e1, _⟩ := h1; exact Heap.lt_size e1
        · obtain ⟨_, e2, _⟩ := h2; exact Heap.lt_size e2
      rw [upd_ne (Nat.ne_of_lt hlt)]
      exact (hf c hcm).1
  done := by
    intro X hP hw hK hc i pins s σ H E I hf st hg
    subst hP hw hK
    obtain ⟨hz, hTI, ⟨x0, y0, hTO⟩, h1, h2⟩ := st
    obtain ⟨xs, ys, hqx, hqy, hend⟩ := hg
    obtain ⟨its, rv, p, _⟩ := I.tuple hqx
    obtain ⟨its2, rv2, p2, _⟩ := I.list hqy
    have l1 := rv.length
    have l2 := rv2.length
    refine wpAny_pyNext_zipD2_end (i := i) (sepM D) (Draws.tuple (A := X.A.in1) (I.ok.hd hc) i1 a D.l1i1 its.toArray) (Draws.list (A := X.A.in1) (I.ok.hd hc) i2 b D.l2i2 its2.toArray) hz hTI hTO ⟨h1, p⟩ ⟨h2, p2.isList⟩ (by simp; omega) (by simp; omega) (by simp; omega) ?_
    intro h' tk hk
    refine ⟨rfl, I.turnedL (t' := tk) (ch := [z, TI, TO, i1, i2]) ?_ hf⟩
    intro c o hb q
    simp only [List.mem_cons, List.not_mem_nil, or_false, not_or] at hb
    exact hk c o hb.1 hb.2.2.1 hb.2.2.2.1 hb.2.2.2.2 q
  self := fun A i s Q E st h => wpAny_pyIter_zip st.1 h
def iZipN (K : PySem.W.Frag) (ta : TA) : TI := fun σ H R => ta σ H fun vs H1 => ∃ a b xs ys, vs = [.ref a, .ref b] ∧ SqT K H1 a xs ∧ SqL K H1 b ys ∧ R (ItzN K a b) H1
theorem pi_zipN {X : Cx} {e e2 : Expr} {ta : TA} {p pos tpos : Pos} {elts : List Expr} {kk : Nat} (hg : Gl X "zip") (hm : X.mg "zip" = none) (ha : PA X [e, e2] ta)
    (hs : starEach [e, e2] X.env = (false, eval e X.env) :: starEach [e2] X.env := by rfl) (hpl : (backTo pos (starEach [e2] X.env)).any (·.1) = false := by rfl) :
    PI X (.Tuple elts kk tpos) (.Call (.Name "zip" p) [e, e2] [] pos) (iZipN X.K ta) := by
  constructor
  intro pins s σ H R I h
  refine Call_ (ld_blt I hg hm PyProof.Rows.boot_zip (PyProof.Rows.callWith_type1 (thn (ha.run pos pins s σ H _ I h) ?_) hs hpl))
  rintro us s1 ⟨vs, H1, I1, r1, a, b, xs, ys, rfl, hqx, hqy, q⟩
  obtain ⟨u, v, rfl, rfl, rfl⟩ := vals2 r1
  obtain ⟨its, rv, p1, _⟩ := I1.tuple hqx
  obtain ⟨its2, rv2, p2, _⟩ := I1.list hqy
  refine call_zipN (show s1.heap.IsTuple a its.toArray from p1) p2.isList fun h' hz hTI hTO h1 h2 hk => wpAny_pyIter_zip hz ?_
  have I2 : Inv X pins σ H1 { s1 with heap := h' } := I1.kept (t' := s1.toks) hk
  refine ⟨s1.heap.objs.size + 4, [s1.heap.objs.size + 4, s1.heap.objs.size + 2, s1.heap.objs.size + 3, s1.heap.objs.size, s1.heap.objs.size + 1], _, _, H1, rfl, I2,
    turn_zipN (PySem.W.ktu_apart s1.heap.objs.size a b (tupLt p1) p2.lt), ⟨hz, hTI, ⟨_, _, hTO⟩, h1, h2⟩, ?_, q⟩
  intro c hcm
  have hle : s1.heap.objs.size ≤ c := by
    simp only [List.mem_cons, List.not_mem_nil, or_false] at hcm
    rcases hcm with rfl | rfl | rfl | rfl | rfl <;> omega
  exact I1.fpOk hle (I1.hok.fresh hle)
theorem walk_zipN {K : PySem.W.Frag} {a b : Addr} {xs ys : List V} {n : Nat} (hn : n = min xs.length ys.length) :
    Walk (ItzN K a b) n (fun H => SqT K H a xs ∧ SqL K H b ys) (YPair (fun i => xs[i]?) (fun i => ys[i]?)) := by
  subst hn
  constructor
  · rintro i H hi ⟨q1, q2⟩
    have h1 : i < xs.length := by omega
    have h2 : i < ys.length := by omega
    exact ⟨xs, ys, xs[i], ys[i], q1, q2, by simp [h1], by simp [h2]⟩
  · rintro H ⟨q1, q2⟩
    exact ⟨xs, ys, q1, q2, rfl⟩
  · rintro i H v H' _ ⟨q1, q2⟩ ⟨T, x, z, h1, h2, h3, h4, h5⟩
    exact ⟨T, x, z, h1, h2, h3, h4 xs q1, h5 ys q2⟩
end Pv

namespace Pv
/-! cuts: who moves out of a set of posts, and into it -/
abbrev Rt := Option (Int × Option Int)
abbrev Ed := Rt × Int × Int
def inb (m : Int → Bool) : Option Int → Bool
  | none => false
  | some y => m y
def sg (m : Int → Bool) : Rt → Int
  | none => 0
  | some r => (if inb m r.2 = true then 1 else 0) - (if m r.1 = true then 1 else 0)
def wE (m : Int → Bool) (e : Ed) : Int := if sg m e.1 < 0 then e.2.2 else if 0 < sg m e.1 then -e.2.1 else 0
def spareS (N : List Int) (sp : Int → Int) (m : Int → Bool) : Int := ((N.filter m).map sp).sum
def FS (N : List Int) (sp : Int → Int) (m : Int → Bool) (es : List Ed) : Int := spareS N sp m + (es.map (wE m)).sum
def lP (p : Int) (e : Ed) : Int := match e.1 with | some r => if r.1 = p then e.2.1 else 0 | none => 0
def PS (sp : Int → Int) (p : Int) (es : List Ed) : Int := - sp p - (es.map (lP p)).sum
def lZ (e : Ed) : Int := match e.1 with | none => e.2.1 | some _ => 0
def ZS (es : List Ed) : Int := -(es.map lZ).sum
structure Feas (N : List Int) (sp : Int → Int) (C : List Int) (es : List Ed) : Prop where
  set : ∀ m, 0 ≤ FS N sp m es
  st : ∀ p ∈ C, 0 ≤ PS sp p es
  z : 0 ≤ ZS es
structure Wf (N : List Int) (C : List Int) (es : List Ed) : Prop where
  nd : N.Nodup
  sub : ∀ p ∈ C, p ∈ N
  a : ∀ e ∈ es, ∀ r, e.1 = some r → r.1 ∈ C
  b : ∀ e ∈ es, ∀ r, e.1 = some r → ∀ y, r.2 = some y → y ∉ C
  lu : ∀ e ∈ es, e.2.1 ≤ e.2.2
theorem sum_set {α : Type} (f : α → Int) : ∀ (l : List α) (j : Nat) (x y : α), l[j]? = some x → ((l.set j y).map f).sum = (l.map f).sum - f x + f y
  | [], j, x, y, h => by simp at h
  | z :: l, 0, x, y, h => by simp at h; subst h; simp; omega
  | z :: l, j + 1, x, y, h => by
    have := sum_set f l j x y (by simpa using h)
    simp only [List.set_cons_succ, List.map_cons, List.sum_cons, this]
    omega
theorem spareS_mod (N : List Int) (sp : Int → Int) (m n : Int → Bool) : spareS N sp m + spareS N sp n = spareS N sp (fun q => m q && n q) + spareS N sp (fun q => m q || n q) := by
  unfold spareS
  induction N with
  | nil => rfl
  | cons p N ih =>
    by_cases h1 : m p = true <;> by_cases h2 : n p = true <;> simp [h1, h2] <;> omega
theorem inb_and (m n : Int → Bool) (b : Option Int) : inb (fun q => m q && n q) b = (inb m b && inb n b) := by cases b <;> rfl
theorem inb_or (m n : Int → Bool) (b : Option Int) : inb (fun q => m q || n q) b = (inb m b || inb n b) := by cases b <;> rfl
def bon (m n : Int → Bool) (e : Ed) : Int := if sg m e.1 < 0 ∧ 0 < sg n e.1 then e.2.2 - e.2.1 else 0
def wB (i a : Bool) (l u : Int) : Int := if i = false ∧ a = true then u else if i = true ∧ a = false then -l else 0
theorem sg_neg (m : Int → Bool) (r : Int × Option Int) : sg m (some r) < 0 ↔ inb m r.2 = false ∧ m r.1 = true := by
  cases h1 : inb m r.2 <;> cases h2 : m r.1 <;> simp [sg, h1, h2]
theorem sg_pos (m : Int → Bool) (r : Int × Option Int) : 0 < sg m (some r) ↔ inb m r.2 = true ∧ m r.1 = false := by
  cases h1 : inb m r.2 <;> cases h2 : m r.1 <;> simp [sg, h1, h2]
theorem wE_some (m : Int → Bool) (r : Int × Option Int) (l u : Int) : wE m (some r, l, u) = wB (inb m r.2) (m r.1) l u := by
  cases h1 : inb m r.2 <;> cases h2 : m r.1 <;> simp [wE, sg, wB, h1, h2]
theorem w_sub (m n : Int → Bool) (e : Ed) (h : e.2.1 ≤ e.2.2) : wE (fun q => m q && n q) e + wE (fun q => m q || n q) e + bon m n e ≤ wE m e + wE n e := by
  obtain ⟨r, l, u⟩ := e
  cases r with
  | none => simp [wE, sg, bon]
  | some r =>
    simp only [wE_some, bon, inb_and, inb_or, sg_neg, sg_pos] at h ⊢
    cases h1 : m r.1 <;> cases h2 : n r.1 <;> cases h3 : inb m r.2 <;> cases h4 : inb n r.2 <;> simp [wB] <;> omega
theorem bon_nn (m n : Int → Bool) (e : Ed) (h : e.2.1 ≤ e.2.2) : 0 ≤ bon m n e := by unfold bon; split <;> omega
theorem sum_nn : ∀ {l : List Int}, (∀ x ∈ l, 0 ≤ x) → 0 ≤ l.sum
  | [], _ => by simp
  | x :: l, h => by
    have h1 := h x (by simp)
    have h2 := sum_nn (l := l) fun y hy => h y (by simp [hy])
    simp only [List.sum_cons]; omega
theorem sum_ge {l : List Int} (h : ∀ x ∈ l, 0 ≤ x) {y : Int} (hy : y ∈ l) : y ≤ l.sum := by
  induction l with
  | nil => cases hy
  | cons x l ih =>
    have h1 := h x (by simp)
    have h2 := sum_nn (l := l) fun y hy => h y (by simp [hy])
    simp only [List.sum_cons]
    rcases List.mem_cons.mp hy with rfl | hy
    · omega
    · have := ih (fun x hx => h x (by simp [hx])) hy; omega
theorem F_sub (N : List Int) (sp : Int → Int) (m n : Int → Bool) {es : List Ed} (h : ∀ e ∈ es, e.2.1 ≤ e.2.2) : FS N sp (fun q => m q && n q) es + FS N sp (fun q => m q || n q) es + (es.map (bon m n)).sum ≤ FS N sp m es + FS N sp n es := by
  have h1 := spareS_mod N sp m n
  have h2 : (es.map (wE (fun q => m q && n q))).sum + (es.map (wE (fun q => m q || n q))).sum + (es.map (bon m n)).sum ≤ (es.map (wE m)).sum + (es.map (wE n)).sum := by
    clear h1
    induction es with
    | nil => simp
    | cons e es ih =>
      have a := w_sub m n e (h e (by simp))
      have b := ih fun e he => h e (by simp [he])
      simp only [List.map_cons, List.sum_cons]
      omega
  unfold FS
  omega
/-- a cut that a group leaves, and one that it comes into, have room for it together -/
theorem cross {N : List Int} {sp : Int → Int} {C : List Int} {es : List Ed} (W : Wf N C es) (Fe : Feas N sp C es) {e : Ed} (he : e ∈ es) {m n : Int → Bool} (hm : sg m e.1 < 0) (hn : 0 < sg n e.1) : e.2.2 - e.2.1 ≤ FS N sp m es + FS N sp n es := by
  have h1 := F_sub N sp m n W.lu
  have h2 := Fe.set (fun q => m q && n q)
  have h3 := Fe.set (fun q => m q || n q)
  have h4 : bon m n e ≤ (es.map (bon m n)).sum := sum_ge (fun x hx => by
    obtain ⟨e', he', rfl⟩ := List.mem_map.mp hx
    exact bon_nn m n e' (W.lu e' he')) (List.mem_map_of_mem he)
  have h5 : bon m n e = e.2.2 - e.2.1 := by unfold bon; rw [if_pos ⟨hm, hn⟩]
  omega
theorem spareS_out {N : List Int} (nd : N.Nodup) (sp : Int → Int) {m : Int → Bool} {p : Int} (hp : p ∈ N) (hm : m p = true) : spareS N sp m = spareS N sp (fun q => m q && !decide (q = p)) + sp p := by
  unfold spareS
  induction N with
  | nil => cases hp
  | cons x N ih =>
    have nd' := List.nodup_cons.mp nd
    by_cases hx : x = p
    · subst hx
      have : N.filter (fun q => m q && !decide (q = x)) = N.filter m := by
        apply List.filter_congr
        intro q hq
        have : q ≠ x := fun z => nd'.1 (z ▸ hq)
        simp [this]
      rw [List.filter_cons_of_pos hm, List.filter_cons_of_neg (by simp), this]
      simp; omega
    · have hp' : p ∈ N := by rcases List.mem_cons.mp hp with h | h; exact absurd h.symm hx; exact h
      have := ih nd'.2 hp'
      by_cases h : m x = true
      · rw [List.filter_cons_of_pos h, List.filter_cons_of_pos (by simp [h, hx])]
        simp only [List.map_cons, List.sum_cons]; omega
      · rw [List.filter_cons_of_neg h, List.filter_cons_of_neg (by simp [h])]
        exact this
def bonP (m : Int → Bool) (p : Int) (e : Ed) : Int := match e.1 with | some r => if r.1 = p ∧ inb m r.2 = false then e.2.2 - e.2.1 else 0 | none => 0
/-- a cut that a group leaves, and the cut of its first post -/
theorem crossP {N : List Int} {sp : Int → Int} {C : List Int} {es : List Ed} (W : Wf N C es) (Fe : Feas N sp C es) {e : Ed} (he : e ∈ es) {m : Int → Bool} {r : Int × Option Int} (hr : e.1 = some r) (hm : sg m e.1 < 0) : e.2.2 - e.2.1 ≤ FS N sp m es + PS sp r.1 es := by
  have hrC := W.a e he r hr
  have hmp : m r.1 = true ∧ inb m r.2 = false := by
    rw [hr, sg_neg] at hm
    exact ⟨hm.2, hm.1⟩
  have h1 := spareS_out W.nd sp (W.sub _ hrC) hmp.1
  have key : ∀ e ∈ es, wE m e - lP r.1 e = wE (fun q => m q && !decide (q = r.1)) e + bonP m r.1 e := by
    intro e' he'
    obtain ⟨r', l, u⟩ := e'
    cases r' with
    | none => simp [wE, sg, lP, bonP]
    | some r' =>
      obtain ⟨a, b⟩ := r'
      have hb : inb (fun q => m q && !decide (q = r.1)) b = inb m b := by
        cases b with
        | none => rfl
        | some y =>
          have hy := W.b _ he' (a, some y) rfl y rfl
          have : y ≠ r.1 := fun z => hy (z ▸ hrC)
          simp [inb, this]
      simp only [wE_some, lP, bonP, hb]
      by_cases ha : a = r.1
      · subst ha
        cases h9 : inb m b <;> simp [wB, hmp.1]
      · simp [ha]
  have h2 : (es.map (wE m)).sum - (es.map (lP r.1)).sum = (es.map (wE (fun q => m q && !decide (q = r.1)))).sum + (es.map (bonP m r.1)).sum := by
    clear he Fe W
    induction es with
    | nil => simp
    | cons e' es ih =>
      have a := key e' (by simp)
      have b := ih fun e he => key e (by simp [he])
      simp only [List.map_cons, List.sum_cons]
      omega
  have h3 := Fe.set (fun q => m q && !decide (q = r.1))
  have h4 : bonP m r.1 e ≤ (es.map (bonP m r.1)).sum := sum_ge (fun x hx => by
    obtain ⟨e', he', rfl⟩ := List.mem_map.mp hx
    have := W.lu e' he'
    unfold bonP
    split
    · split <;> omega
    · omega) (List.mem_map_of_mem he)
  have h5 : bonP m r.1 e = e.2.2 - e.2.1 := by unfold bonP; rw [hr]; simp [hmp.2]
  unfold FS at h3 ⊢
  unfold PS
  omega
/-! one group is given its integer -/
theorem F_set {N : List Int} {sp : Int → Int} {es : List Ed} {j : Nat} {e e' : Ed} (he : es[j]? = some e) (m : Int → Bool) : FS N sp m (es.set j e') = FS N sp m es - wE m e + wE m e' := by
  unfold FS; rw [sum_set (wE m) es j e e' he]; omega
theorem P_set {sp : Int → Int} {es : List Ed} {j : Nat} {e e' : Ed} (he : es[j]? = some e) (p : Int) : PS sp p (es.set j e') = PS sp p es + lP p e - lP p e' := by
  unfold PS; rw [sum_set (lP p) es j e e' he]; omega
theorem Z_set {es : List Ed} {j : Nat} {e e' : Ed} (he : es[j]? = some e) : ZS (es.set j e') = ZS es + lZ e - lZ e' := by
  unfold ZS; rw [sum_set lZ es j e e' he]; omega
/-- which integers are open to a group -/
structure Opn (N : List Int) (sp : Int → Int) (es : List Ed) (e : Ed) (x : Int) : Prop where
  lo : ∀ m, sg m e.1 < 0 → e.2.2 - FS N sp m es ≤ x
  hi : ∀ m, 0 < sg m e.1 → x ≤ e.2.1 + FS N sp m es
  p : ∀ r, e.1 = some r → x ≤ e.2.1 + PS sp r.1 es
  z : e.1 = none → x ≤ e.2.1 + ZS es
theorem opn_iff {N : List Int} {sp : Int → Int} {C : List Int} {es : List Ed} (W : Wf N C es) (Fe : Feas N sp C es) {j : Nat} {e : Ed} (he : es[j]? = some e) (x : Int) : Feas N sp C (es.set j (e.1, x, x)) ↔ Opn N sp es e x := by
  constructor
  · intro h
    refine ⟨fun m hm => ?_, fun m hm => ?_, fun r hr => ?_, fun hn => ?_⟩
    · have := h.set m
      rw [F_set he] at this
      unfold wE at this
      simp only [hm, if_true] at this
      omega
    · have := h.set m
      rw [F_set he] at this
      unfold wE at this
      have hn : ¬ sg m e.1 < 0 := by omega
      simp only [hm, hn, if_true, if_false] at this
      omega
    · have := h.st r.1 (W.a e (List.mem_of_getElem? he) r hr)
      rw [P_set he] at this
      unfold lP at this
      simp only [hr, if_true] at this
      omega
    · have := h.z
      rw [Z_set he] at this
      unfold lZ at this
      simp only [hn] at this
      omega
  · intro h
    refine ⟨fun m => ?_, fun p hp => ?_, ?_⟩
    · rw [F_set he]
      have := Fe.set m
      by_cases h1 : sg m e.1 < 0
      · have := h.lo m h1
        unfold wE
        simp only [h1, if_true]; omega
      · by_cases h2 : 0 < sg m e.1
        · have := h.hi m h2
          unfold wE
          simp only [h1, h2, if_true, if_false]; omega
        · unfold wE
          simp only [h1, h2, if_false]; omega
    · rw [P_set he]
      have := Fe.st p hp
      unfold lP
      cases hr : e.1 with
      | none => simp only; omega
      | some r =>
        simp only
        by_cases h1 : r.1 = p
        · have := h.p r hr
          simp only [h1, if_true] at this ⊢
          omega
        · simp only [h1, if_false]; omega
    · rw [Z_set he]
      have := Fe.z
      unfold lZ
      cases hr : e.1 with
      | none => have := h.z hr; simp only; omega
      | some r => simp only; omega
/-- the least that is asked from below is open -/
theorem opn_least {N : List Int} {sp : Int → Int} {C : List Int} {es : List Ed} (W : Wf N C es) (Fe : Feas N sp C es) {e : Ed} (he : e ∈ es) {x : Int} (lo : ∀ m, sg m e.1 < 0 → e.2.2 - FS N sp m es ≤ x) (at_ : x = e.2.1 ∨ ∃ m, sg m e.1 < 0 ∧ x = e.2.2 - FS N sp m es) : Opn N sp es e x := by
  refine ⟨lo, fun m hm => ?_, fun r hr => ?_, fun hn => ?_⟩
  · rcases at_ with rfl | ⟨m', hm', rfl⟩
    · have := Fe.set m; omega
    · have := cross W Fe he hm' hm; omega
  · rcases at_ with rfl | ⟨m', hm', rfl⟩
    · have := Fe.st _ (W.a e he r hr); omega
    · have := crossP W Fe he hr hm'; omega
  · rcases at_ with rfl | ⟨m', hm', rfl⟩
    · have := Fe.z; omega
    · rw [hn] at hm'; simp [sg] at hm'
/-- the greatest that is let through from above is open -/
theorem opn_most {N : List Int} {sp : Int → Int} {C : List Int} {es : List Ed} (W : Wf N C es) (Fe : Feas N sp C es) {e : Ed} (he : e ∈ es) {x : Int} (hi : ∀ m, 0 < sg m e.1 → x ≤ e.2.1 + FS N sp m es) (p : ∀ r, e.1 = some r → x ≤ e.2.1 + PS sp r.1 es) (z : e.1 = none → x ≤ e.2.1 + ZS es)
    (at_ : x = e.2.2 ∨ (∃ m, 0 < sg m e.1 ∧ x = e.2.1 + FS N sp m es) ∨ (∃ r, e.1 = some r ∧ x = e.2.1 + PS sp r.1 es) ∨ (e.1 = none ∧ x = e.2.1 + ZS es)) : Opn N sp es e x := by
  refine ⟨fun m hm => ?_, hi, p, z⟩
  rcases at_ with rfl | ⟨m', hm', rfl⟩ | ⟨r, hr, rfl⟩ | ⟨hn, rfl⟩
  · have := Fe.set m; omega
  · have := cross W Fe he hm hm'; omega
  · have := crossP W Fe he hr hm; omega
  · rw [hn] at hm; simp [sg] at hm
theorem Wf.set {N : List Int} {C : List Int} {es : List Ed} (W : Wf N C es) {j : Nat} {e : Ed} (he : es[j]? = some e) (x : Int) : Wf N C (es.set j (e.1, x, x)) := by
  have hm := List.mem_of_getElem? he
  refine ⟨W.nd, W.sub, fun e' h' r hr => ?_, fun e' h' r hr => ?_, fun e' h' => ?_⟩
  · rcases List.mem_or_eq_of_mem_set h' with h | h
    · exact W.a e' h r hr
    · subst h; exact W.a e hm r hr
  · rcases List.mem_or_eq_of_mem_set h' with h | h
    · exact W.b e' h r hr
    · subst h; exact W.b e hm r hr
  · rcases List.mem_or_eq_of_mem_set h' with h | h
    · exact W.lu e' h
    · subst h; exact Int.le_refl _
/-- there is one -/
theorem opn_ex {N : List Int} {sp : Int → Int} {C : List Int} {es : List Ed} (W : Wf N C es) (Fe : Feas N sp C es) {e : Ed} (he : e ∈ es) : ∃ x, e.2.1 ≤ x ∧ x ≤ e.2.2 ∧ Opn N sp es e x := by
  have hlu := W.lu e he
  -- the least natural number k with: l + k is at least all that is asked
  have hex : ∃ k : Nat, ∀ m, sg m e.1 < 0 → e.2.2 - FS N sp m es ≤ e.2.1 + k := ⟨(e.2.2 - e.2.1).toNat, fun m hm => by have := Fe.set m; omega⟩
  have hmin : ∀ n : Nat, (∀ m, sg m e.1 < 0 → e.2.2 - FS N sp m es ≤ e.2.1 + n) → ∃ k : Nat, k ≤ n ∧ (∀ m, sg m e.1 < 0 → e.2.2 - FS N sp m es ≤ e.2.1 + k) ∧ (k = 0 ∨ ∃ m, sg m e.1 < 0 ∧ e.2.1 + k = e.2.2 - FS N sp m es) := by
    intro n
    induction n with
    | zero => intro h; exact ⟨0, Nat.le_refl _, h, .inl rfl⟩
    | succ n ih =>
      intro h
      by_cases h' : ∀ m, sg m e.1 < 0 → e.2.2 - FS N sp m es ≤ e.2.1 + n
      · obtain ⟨k, h1, h2⟩ := ih h'
        exact ⟨k, by omega, h2⟩
      · refine ⟨n + 1, Nat.le_refl _, h, .inr ?_⟩
        have ⟨m, hm⟩ := Classical.not_forall.mp h'
        have ⟨h1, h2⟩ := Classical.not_imp.mp hm
        refine ⟨m, h1, ?_⟩
        have := h m h1
        omega
  obtain ⟨k, hk, hlo, hat⟩ := hmin (e.2.2 - e.2.1).toNat fun m hm => by have := Fe.set m; omega
  refine ⟨e.2.1 + k, by omega, by omega, opn_least W Fe he hlo ?_⟩
  rcases hat with rfl | ⟨m, h1, h2⟩
  · left; simp
  · right; exact ⟨m, h1, h2⟩
/-- all groups can be given integers -/
theorem complete_on {N : List Int} {sp : Int → Int} {C : List Int} : ∀ (rest done : List Ed), Wf N C (done ++ rest) → Feas N sp C (done ++ rest) → ∃ xs : List Int, xs.length = rest.length ∧ (∀ (j : Nat) (e : Ed) (x : Int), rest[j]? = some e → xs[j]? = some x → e.2.1 ≤ x ∧ x ≤ e.2.2) ∧ Feas N sp C (done ++ List.zipWith (fun (e : Ed) x => ((e.1, x, x) : Ed)) rest xs)
  | [], done, _, Fe => ⟨[], rfl, fun j e x h => by simp at h, by simpa using Fe⟩
  | e :: rest, done, W, Fe => by
    have hat : (done ++ e :: rest)[done.length]? = some e := by simp
    obtain ⟨x, h1, h2, h3⟩ := opn_ex W Fe (List.mem_of_getElem? hat)
    have hset : (done ++ e :: rest).set done.length (e.1, x, x) = (done ++ [((e.1, x, x) : Ed)]) ++ rest := by simp
    have W' := W.set hat x
    have F' := (opn_iff W Fe hat x).mpr h3
    rw [hset] at W' F'
    obtain ⟨xs, lx, bx, Fx⟩ := complete_on rest (done ++ [((e.1, x, x) : Ed)]) W' F'
    refine ⟨x :: xs, by simp [lx], fun j f y hf hy => ?_, by simpa using Fx⟩
    cases j with
    | zero => simp at hf hy; subst hf; subst hy; exact ⟨h1, h2⟩
    | succ j => exact bx j f y (by simpa using hf) (by simpa using hy)
theorem complete {N : List Int} {sp : Int → Int} {C : List Int} {es : List Ed} (W : Wf N C es) (Fe : Feas N sp C es) : ∃ xs : List Int, xs.length = es.length ∧ (∀ (j : Nat) (e : Ed) (x : Int), es[j]? = some e → xs[j]? = some x → e.2.1 ≤ x ∧ x ≤ e.2.2) ∧ Feas N sp C (List.zipWith (fun (e : Ed) x => ((e.1, x, x) : Ed)) es xs) := by
  obtain ⟨xs, h1, h2, h3⟩ := complete_on es [] (by simpa using W) (by simpa using Fe)
  exact ⟨xs, h1, h2, by simpa using h3⟩
/-- what is fixed is open before -/
theorem feas_loose {N : List Int} {sp : Int → Int} {C : List Int} : ∀ {es fs : List Ed}, Feas N sp C fs → es.length = fs.length → (∀ (j : Nat) (e f : Ed), es[j]? = some e → fs[j]? = some f → e.1 = f.1 ∧ e.2.1 ≤ f.2.1 ∧ f.2.2 ≤ e.2.2) → Feas N sp C es := by
  intro es fs Fe hl h
  have key : ∀ (g : Ed → Int), (∀ e f : Ed, e.1 = f.1 → e.2.1 ≤ f.2.1 → f.2.2 ≤ e.2.2 → g f ≤ g e) → ∀ (es fs : List Ed), es.length = fs.length → (∀ (j : Nat) (e f : Ed), es[j]? = some e → fs[j]? = some f → e.1 = f.1 ∧ e.2.1 ≤ f.2.1 ∧ f.2.2 ≤ e.2.2) → (fs.map g).sum ≤ (es.map g).sum := by
    intro g hg es
    induction es with
    | nil => intro fs hl _; cases fs with | nil => simp | cons _ _ => simp at hl
    | cons e es ih =>
      intro fs hl h
      cases fs with
      | nil => simp at hl
      | cons f fs =>
        have h0 := h 0 e f rfl rfl
        have h1 := hg e f h0.1 h0.2.1 h0.2.2
        have h2 := ih fs (by simpa using hl) fun j e f he hf => h (j + 1) e f (by simpa using he) (by simpa using hf)
        simp only [List.map_cons, List.sum_cons]; omega
  refine ⟨fun m => ?_, fun p hp => ?_, ?_⟩
  · have h1 := Fe.set m
    have h2 := key (wE m) (fun e f a b c => by
      unfold wE
      rw [a]
      split
      · omega
      · split <;> omega) es fs hl h
    unfold FS at h1 ⊢; omega
  · have h1 := Fe.st p hp
    have h2 := key (fun e => - lP p e) (fun e f a b c => by
      unfold lP
      rw [a]
      split
      · split <;> omega
      · omega) es fs hl h
    have h3 : ∀ l : List Ed, (l.map (fun e => - lP p e)).sum = - (l.map (lP p)).sum := by
      intro l; induction l with
      | nil => simp
      | cons x l ih => simp only [List.map_cons, List.sum_cons, ih]; omega
    rw [h3, h3] at h2
    unfold PS at h1 ⊢; omega
  · have h1 := Fe.z
    have h2 := key (fun e => - lZ e) (fun e f a b c => by
      unfold lZ
      rw [a]
      split
      · omega
      · omega) es fs hl h
    have h3 : ∀ l : List Ed, (l.map (fun e => - lZ e)).sum = - (l.map lZ).sum := by
      intro l; induction l with
      | nil => simp
      | cons x l ih => simp only [List.map_cons, List.sum_cons, ih]; omega
    rw [h3, h3] at h2
    unfold ZS at h1 ⊢; omega
end Pv

namespace Pv
/-! the cuts of an instance -/
def spOf (cs : List Int) (gs : List Gp) (p : Int) : Int := cs.getD p.toNat 0 - (rDem cs gs).getD p.toNat 0
def nzP (cs : List Int) (gs : List Gp) : List Int := ((List.range cs.length).map (fun (k : Nat) => (k : Int))).filter fun p => !decide (spOf cs gs p = 0)
def esx (cs : List Int) (gs : List Gp) (xs : List Int) : List Ed := List.zipWith (fun g x => ((routeOf cs gs g, x, x) : Ed)) gs xs
def es0 (cs : List Int) (gs : List Gp) : List Ed := gs.map fun g => ((routeOf cs gs g, 0, g.2) : Ed)
theorem nz_nodup (cs : List Int) (gs : List Gp) : (nzP cs gs).Nodup := by
  refine List.Nodup.sublist (List.filter_sublist ..) ?_
  rw [List.nodup_iff_pairwise_ne, List.pairwise_map]
  exact List.Pairwise.imp (fun h => by omega) (List.nodup_iff_pairwise_ne.mp List.nodup_range)
theorem nz_mem {cs : List Int} {gs : List Gp} {p : Int} : p ∈ nzP cs gs ↔ (0 ≤ p ∧ p < (cs.length : Int)) ∧ spOf cs gs p ≠ 0 := by
  unfold nzP
  rw [List.mem_filter, List.mem_map]
  constructor
  · rintro ⟨⟨k, hk, rfl⟩, h⟩
    have := List.mem_range.mp hk
    exact ⟨⟨by omega, by omega⟩, by simpa using h⟩
  · rintro ⟨⟨h1, h2⟩, h⟩
    exact ⟨⟨p.toNat, List.mem_range.mpr (by omega), by omega⟩, by simpa using h⟩
theorem sel_mem {f : Int → Bool} {ls : List Int} {n : Nat} {p : Int} : p ∈ sel f ls n ↔ (0 ≤ p ∧ p < (n : Int)) ∧ f (ls.getD p.toNat 0) = true := by
  unfold sel
  rw [List.mem_map]
  constructor
  · rintro ⟨k, hk, rfl⟩
    have := List.mem_filter.mp hk
    have h2 := List.mem_range.mp this.1
    exact ⟨⟨by omega, by omega⟩, by simpa using this.2⟩
  · rintro ⟨⟨h1, h2⟩, h⟩
    exact ⟨p.toNat, List.mem_filter.mpr ⟨List.mem_range.mpr (by omega), h⟩, by omega⟩
theorem cro_mem {cs : List Int} {gs : List Gp} {p : Int} : p ∈ rCro cs gs ↔ (0 ≤ p ∧ p < (cs.length : Int)) ∧ spOf cs gs p < 0 := by
  unfold rCro
  rw [sel_mem]
  constructor
  · rintro ⟨⟨h1, h2⟩, h⟩
    refine ⟨⟨h1, h2⟩, ?_⟩
    have a : p.toNat < cs.length := by omega
    unfold rExc at h
    rw [exc_at a (by rw [rDem_len]; exact a)] at h
    unfold spOf
    rw [List.getD_eq_getElem?_getD, List.getD_eq_getElem?_getD, List.getElem?_eq_getElem a, List.getElem?_eq_getElem (show p.toNat < (rDem cs gs).length by rw [rDem_len]; exact a)]
    simp only [Option.getD_some]
    have h := of_decide_eq_true h
    unfold mx at h
    split at h <;> omega
  · rintro ⟨⟨h1, h2⟩, h⟩
    refine ⟨⟨h1, h2⟩, ?_⟩
    have a : p.toNat < cs.length := by omega
    unfold rExc
    rw [exc_at a (by rw [rDem_len]; exact a)]
    unfold spOf at h
    rw [List.getD_eq_getElem?_getD, List.getD_eq_getElem?_getD, List.getElem?_eq_getElem a, List.getElem?_eq_getElem (show p.toNat < (rDem cs gs).length by rw [rDem_len]; exact a)] at h
    simp only [Option.getD_some] at h
    apply decide_eq_true
    unfold mx
    split <;> omega
theorem cla_mem {cs : List Int} {gs : List Gp} {p : Int} (h : 0 ≤ p ∧ p < (cs.length : Int)) : (rCla cs gs).contains p = decide (spOf cs gs p ≤ 0) := by
  have a : p.toNat < cs.length := by omega
  have e : p = ((p.toNat : Nat) : Int) := by omega
  rw [e, cla_has a]
  unfold spOf
  rw [Int.toNat_natCast, List.getD_eq_getElem?_getD, List.getD_eq_getElem?_getD, List.getElem?_eq_getElem a, List.getElem?_eq_getElem (show p.toNat < (rDem cs gs).length by rw [rDem_len]; exact a)]
  simp only [Option.getD_some, decide_eq_decide]
  omega
theorem res_free {ps cl : List Int} {y : Int} (h : ps[resOf ps cl]? = some y) : cl.contains y = false := by
  unfold resOf at h
  cases e : (List.range' 1 (ps.length - 1)).find? (isFree ps cl) with
  | none => rw [e] at h; simp at h
  | some k =>
    rw [e] at h
    simp only [Option.getD_some] at h
    have := List.find?_some e
    unfold isFree at this
    rw [List.getD_eq_getElem?_getD, h] at this
    simpa using this
theorem route_wf {cs : List Int} {gs : List Gp} (ok : InsOk cs gs) {g : Gp} (hg : g ∈ gs) {r : Int × Option Int} (h : routeOf cs gs g = some r) : r.1 ∈ rCro cs gs ∧ ∀ y, r.2 = some y → 0 < spOf cs gs y ∧ 0 ≤ y ∧ y < (cs.length : Int) := by
  have hin := route_in ok hg h
  unfold routeOf at h
  cases e : g.1 with
  | nil => rw [e] at h; cases h
  | cons p ps =>
    rw [e] at h
    simp only at h
    split at h
    case isFalse => cases h
    case isTrue hc =>
      cases h
      refine ⟨by simpa using hc, fun y hy => ?_⟩
      have hy2 := hin.2 y hy
      simp only at hy
      have := res_free hy
      rw [cla_mem hy2] at this
      have := of_decide_eq_false this
      exact ⟨by omega, hy2.1, hy2.2⟩
theorem wf_of {cs : List Int} {gs : List Gp} (ok : InsOk cs gs) {es : List Ed} (h : ∀ e ∈ es, e.2.1 ≤ e.2.2 ∧ ∃ g ∈ gs, e.1 = routeOf cs gs g) : Wf (nzP cs gs) (rCro cs gs) es := by
  refine ⟨nz_nodup cs gs, fun p hp => ?_, fun e he r hr => ?_, fun e he r hr y hy hc => ?_, fun e he => (h e he).1⟩
  · have := cro_mem.mp hp
    exact nz_mem.mpr ⟨this.1, by omega⟩
  · obtain ⟨_, g, hg, e1⟩ := h e he
    exact (route_wf ok hg (e1 ▸ hr)).1
  · obtain ⟨_, g, hg, e1⟩ := h e he
    have h1 := (route_wf ok hg (e1 ▸ hr)).2 y hy
    have h2 := cro_mem.mp hc
    omega
theorem wf_es0 {cs : List Int} {gs : List Gp} (ok : InsOk cs gs) : Wf (nzP cs gs) (rCro cs gs) (es0 cs gs) := by
  refine wf_of ok fun e he => ?_
  obtain ⟨g, hg, rfl⟩ := List.mem_map.mp he
  exact ⟨by have := (ok.gp g hg).2.2.1; simp only; omega, g, hg, rfl⟩
/-! what is moved, by posts -/
def movP (p : Int) (z : Rt × Int) : Int := match z.1 with | some r => if r.1 = p then z.2 else 0 | none => 0
def takP (p : Int) (z : Rt × Int) : Int := match z.1 with | some r => if r.2 = some p then z.2 else 0 | none => 0
theorem addAt_get {ls : List Int} {p q : Nat} {x : Int} (h : p < ls.length) : (addAt ls (p : Int) x).getD q 0 = ls.getD q 0 + if p = q then x else 0 := by
  unfold addAt
  rw [Int.toNat_natCast, List.getD_eq_getElem?_getD, List.getD_eq_getElem?_getD, List.getElem?_set]
  by_cases e : p = q
  · subst e; simp [h]
  · simp [e]
theorem mv_get {n : Nat} {zs : List (Rt × Int)} (h : ∀ z ∈ zs, ∀ r, z.1 = some r → (0 ≤ r.1 ∧ r.1 < (n : Int)) ∧ ∀ y, r.2 = some y → 0 ≤ y ∧ y < (n : Int)) (q : Nat) : (mvOf n zs).1.getD q 0 = (zs.map (movP q)).sum ∧ (mvOf n zs).2.getD q 0 = (zs.map (takP q)).sum := by
  have key : ∀ (zs : List (Rt × Int)) (st : List Int × List Int), st.1.length = n → st.2.length = n → (∀ z ∈ zs, ∀ r, z.1 = some r → (0 ≤ r.1 ∧ r.1 < (n : Int)) ∧ ∀ y, r.2 = some y → 0 ≤ y ∧ y < (n : Int)) →
      (zs.foldl mvStep st).1.getD q 0 = st.1.getD q 0 + (zs.map (movP q)).sum ∧ (zs.foldl mvStep st).2.getD q 0 = st.2.getD q 0 + (zs.map (takP q)).sum := by
    intro zs
    induction zs with
    | nil => intro st _ _ _; simp
    | cons z zs ih =>
      intro st h1 h2 h
      obtain ⟨r, x⟩ := z
      have hz := h (r, x) (by simp)
      have hs : (mvStep st (r, x)).1.length = n ∧ (mvStep st (r, x)).2.length = n := by
        unfold mvStep
        cases r with
        | none => exact ⟨h1, h2⟩
        | some r =>
          refine ⟨by simp only [addAt_len]; exact h1, ?_⟩
          simp only
          cases r.2 with
          | none => exact h2
          | some y => simp only [addAt_len]; exact h2
      have := ih (mvStep st (r, x)) hs.1 hs.2 fun z hz => h z (by simp [hz])
      rw [List.foldl_cons, this.1, this.2]
      simp only [List.map_cons, List.sum_cons]
      cases r with
      | none => simp [mvStep, movP, takP]
      | some r =>
        obtain ⟨a, b⟩ := r
        obtain ⟨ha, hb⟩ := hz (a, b) rfl
        simp only at ha hb
        obtain ⟨an, rfl⟩ : ∃ an : Nat, a = an := ⟨a.toNat, by omega⟩
        constructor
        · simp only [mvStep, movP]
          rw [addAt_get (by omega)]
          by_cases e : an = q
          · simp [e]; omega
          · have : ¬ ((an : Int) = (q : Int)) := by omega
            simp [e, this]
        · simp only [mvStep, takP]
          cases b with
          | none => simp
          | some y =>
            have hy := hb y rfl
            obtain ⟨yn, rfl⟩ : ∃ yn : Nat, y = yn := ⟨y.toNat, by omega⟩
            simp only
            rw [addAt_get (by omega)]
            by_cases e : yn = q
            · simp [e]; omega
            · have : ¬ ((yn : Int) = (q : Int)) := by omega
              simp [e, this]
  have := key zs (zeros n, zeros n) (by simp [zeros]) (by simp [zeros]) h
  have z0 : (zeros n).getD q 0 = 0 := by
    unfold zeros
    rw [List.getD_eq_getElem?_getD, List.getElem?_replicate]
    split <;> rfl
  unfold mvOf
  rw [this.1, this.2]
  simp only [z0]
  omega
/-- double counting -/
theorem mov_sum {N : List Int} (nd : N.Nodup) (m : Int → Bool) : ∀ (zs : List (Rt × Int)), (∀ z ∈ zs, ∀ r, z.1 = some r → r.1 ∈ N) → ((N.filter m).map (fun p => (zs.map (movP p)).sum)).sum = (zs.map (fun z => match z.1 with | some r => if m r.1 = true then z.2 else 0 | none => 0)).sum := by
  intro zs
  induction zs with
  | nil =>
    intro _
    simp only [List.map_nil, List.sum_nil]
    induction (N.filter m) with
    | nil => rfl
    | cons _ _ ih => simp only [List.map_cons, List.sum_cons, ih]; omega
  | cons z zs ih =>
    intro h
    have e1 := ih fun z hz => h z (by simp [hz])
    have split : ∀ l : List Int, (l.map (fun p => ((z :: zs).map (movP p)).sum)).sum = (l.map (fun p => movP p z)).sum + (l.map (fun p => (zs.map (movP p)).sum)).sum := by
      intro l
      induction l with
      | nil => rfl
      | cons x l ih => simp only [List.map_cons, List.sum_cons] at ih ⊢; omega
    rw [split, e1]
    simp only [List.map_cons, List.sum_cons]
    congr 1
    obtain ⟨r, x⟩ := z
    cases r with
    | none =>
      simp only [movP]
      induction (N.filter m) with
      | nil => rfl
      | cons _ _ ih => simp only [List.map_cons, List.sum_cons, ih]; omega
    | some r =>
      have hr := h (some r, x) (by simp) r rfl
      simp only [movP]
      have one : ∀ l : List Int, l.Nodup → (l.map (fun p => if r.1 = p then x else 0)).sum = if r.1 ∈ l then x else 0 := by
        intro l
        induction l with
        | nil => intro _; rfl
        | cons y l ih =>
          intro nd
          have nd' := List.nodup_cons.mp nd
          simp only [List.map_cons, List.sum_cons, ih nd'.2, List.mem_cons]
          by_cases e : r.1 = y
          · have : r.1 ∉ l := e ▸ nd'.1
            simp [e]; rw [← e]; simp [this]
          · simp [e]
      rw [one _ (List.Nodup.sublist (List.filter_sublist ..) nd)]
      by_cases hm : m r.1 = true
      · simp [hm, hr]
      · simp [hm]
theorem tak_sum {N : List Int} (nd : N.Nodup) (m : Int → Bool) : ∀ (zs : List (Rt × Int)), (∀ z ∈ zs, ∀ r, z.1 = some r → ∀ y, r.2 = some y → y ∈ N) → ((N.filter m).map (fun p => (zs.map (takP p)).sum)).sum = (zs.map (fun z => match z.1 with | some r => if inb m r.2 = true then z.2 else 0 | none => 0)).sum := by
  intro zs
  induction zs with
  | nil =>
    intro _
    simp only [List.map_nil, List.sum_nil]
    induction (N.filter m) with
    | nil => rfl
    | cons _ _ ih => simp only [List.map_cons, List.sum_cons, ih]; omega
  | cons z zs ih =>
    intro h
    have e1 := ih fun z hz => h z (by simp [hz])
    have split : ∀ l : List Int, (l.map (fun p => ((z :: zs).map (takP p)).sum)).sum = (l.map (fun p => takP p z)).sum + (l.map (fun p => (zs.map (takP p)).sum)).sum := by
      intro l
      induction l with
      | nil => rfl
      | cons x l ih => simp only [List.map_cons, List.sum_cons] at ih ⊢; omega
    rw [split, e1]
    simp only [List.map_cons, List.sum_cons]
    congr 1
    obtain ⟨r, x⟩ := z
    have zer : ∀ l : List Int, (l.map (fun _ => (0 : Int))).sum = 0 := by
      intro l
      induction l with
      | nil => rfl
      | cons _ _ ih => simp only [List.map_cons, List.sum_cons, ih]; omega
    cases r with
    | none => simp only [takP]; exact zer _
    | some r =>
      have hr := h (some r, x) (by simp) r rfl
      simp only [takP]
      cases hb : r.2 with
      | none => simp only [inb]; simp; exact zer _
      | some y =>
        have hy := hr y hb
        have one : ∀ l : List Int, l.Nodup → (l.map (fun p => if some y = some p then x else 0)).sum = if y ∈ l then x else 0 := by
          intro l
          induction l with
          | nil => intro _; rfl
          | cons q l ih =>
            intro nd
            have nd' := List.nodup_cons.mp nd
            simp only [List.map_cons, List.sum_cons, ih nd'.2, List.mem_cons]
            by_cases e : y = q
            · have : y ∉ l := e ▸ nd'.1
              simp [e]; rw [← e]; simp [this]
            · simp [e]
        rw [one _ (List.Nodup.sublist (List.filter_sublist ..) nd)]
        simp only [inb]
        by_cases hm : m y = true
        · simp [hm, hy]
        · simp [hm]
end Pv

namespace Pv
theorem zs_mem {cs : List Int} {gs : List Gp} {xs : List Int} {z : Rt × Int} (h : z ∈ zsOf cs gs xs) : ∃ g ∈ gs, z.1 = routeOf cs gs g := by
  unfold zsOf at h
  have := (List.of_mem_zip h).1
  obtain ⟨g, hg, e⟩ := List.mem_map.mp this
  exact ⟨g, hg, e.symm⟩
theorem esx_zs (cs : List Int) (gs : List Gp) (xs : List Int) : esx cs gs xs = (zsOf cs gs xs).map fun z => ((z.1, z.2, z.2) : Ed) := by
  unfold esx zsOf
  have : ∀ (hs : List Gp) (xs : List Int), List.zipWith (fun g x => ((routeOf cs gs g, x, x) : Ed)) hs xs = ((hs.map (routeOf cs gs)).zip xs).map fun z => ((z.1, z.2, z.2) : Ed) := by
    intro hs
    induction hs with
    | nil => intro xs; simp
    | cons h hs ih => intro xs; cases xs with | nil => simp | cons x xs => simp [ih]
  exact this gs xs
theorem sum_sub {α : Type} (f g : α → Int) : ∀ l : List α, (l.map (fun x => f x - g x)).sum = (l.map f).sum - (l.map g).sum
  | [] => by simp
  | x :: l => by simp only [List.map_cons, List.sum_cons, sum_sub f g l]; omega
theorem sum_add {α : Type} (f g : α → Int) : ∀ l : List α, (l.map (fun x => f x + g x)).sum = (l.map f).sum + (l.map g).sum
  | [] => by simp
  | x :: l => by simp only [List.map_cons, List.sum_cons, sum_add f g l]; omega
theorem sum_zero {α : Type} {f : α → Int} : ∀ {l : List α}, (∀ x ∈ l, f x = 0) → (l.map f).sum = 0
  | [], _ => by simp
  | x :: l, h => by simp only [List.map_cons, List.sum_cons, h x (by simp), sum_zero (l := l) fun y hy => h y (by simp [hy])]; omega
section
variable {cs : List Int} {gs : List Gp} {xs : List Int}
theorem FS_esx (ok : InsOk cs gs) (m : Int → Bool) : FS (nzP cs gs) (spOf cs gs) m (esx cs gs xs) = (((nzP cs gs).filter m).map (fun p => spOf cs gs p + (((zsOf cs gs xs).map (movP p)).sum - ((zsOf cs gs xs).map (takP p)).sum))).sum := by
  rw [sum_add, sum_sub, mov_sum (nz_nodup cs gs) m (zsOf cs gs xs) ?_, tak_sum (nz_nodup cs gs) m (zsOf cs gs xs) ?_]
  · unfold FS spareS
    rw [esx_zs, List.map_map, ← sum_sub]
    congr 2
    apply List.map_congr_left
    intro z _
    obtain ⟨r, x⟩ := z
    cases r with
    | none => simp [wE, sg]
    | some r =>
      simp only [Function.comp, wE_some]
      cases h1 : inb m r.2 <;> cases h2 : m r.1 <;> simp [wB]
  · intro z hz r hr y hy
    obtain ⟨g, hg, e⟩ := zs_mem hz
    have := (route_wf ok hg (e ▸ hr)).2 y hy
    exact nz_mem.mpr ⟨this.2, by omega⟩
  · intro z hz r hr
    obtain ⟨g, hg, e⟩ := zs_mem hz
    have := cro_mem.mp (route_wf ok hg (e ▸ hr)).1
    exact nz_mem.mpr ⟨this.1, by omega⟩
theorem PS_esx (p : Int) : PS (spOf cs gs) p (esx cs gs xs) = - spOf cs gs p - ((zsOf cs gs xs).map (movP p)).sum := by
  unfold PS
  rw [esx_zs, List.map_map]
  congr 2
theorem ZS_esx : ZS (esx cs gs xs) = - ((zsOf cs gs xs).map (fun z => match z.1 with | none => z.2 | some _ => 0)).sum := by
  unfold ZS
  rw [esx_zs, List.map_map]
  congr 2
theorem exc_get {p : Nat} (h : p < cs.length) : (rExc cs gs)[p]'(by rw [rExc_len]; exact h) = mx (- spOf cs gs p) ∧ (rFre cs gs)[p]'(by rw [rFre_len]; exact h) = mx (spOf cs gs p) := by
  have hd : p < (rDem cs gs).length := by rw [rDem_len]; exact h
  have e1 : (rExc cs gs).getD p 0 = (rExc cs gs)[p]'(by rw [rExc_len]; exact h) := by rw [List.getD_eq_getElem?_getD, List.getElem?_eq_getElem (by rw [rExc_len]; exact h)]; rfl
  have e2 : (rFre cs gs).getD p 0 = (rFre cs gs)[p]'(by rw [rFre_len]; exact h) := by rw [List.getD_eq_getElem?_getD, List.getElem?_eq_getElem (by rw [rFre_len]; exact h)]; rfl
  rw [← e1, ← e2]
  unfold rExc rFre
  rw [exc_at h hd, fre_at h hd]
  unfold spOf
  rw [Int.toNat_natCast, List.getD_eq_getElem?_getD, List.getD_eq_getElem?_getD, List.getElem?_eq_getElem h, List.getElem?_eq_getElem hd]
  simp only [Option.getD_some]
  exact ⟨congrArg mx (by omega), trivial⟩
theorem zs_in (ok : InsOk cs gs) : ∀ z ∈ zsOf cs gs xs, ∀ r, z.1 = some r → (0 ≤ r.1 ∧ r.1 < (cs.length : Int)) ∧ ∀ y, r.2 = some y → 0 ≤ y ∧ y < (cs.length : Int) := by
  intro z hz r hr
  obtain ⟨g, hg, e⟩ := zs_mem hz
  exact route_in ok hg (e ▸ hr)
theorem mov_zero (ok : InsOk cs gs) {p : Int} (h : 0 ≤ spOf cs gs p) : ((zsOf cs gs xs).map (movP p)).sum = 0 := by
  refine sum_zero fun z hz => ?_
  obtain ⟨g, hg, e⟩ := zs_mem hz
  unfold movP
  cases hr : z.1 with
  | none => rfl
  | some r =>
    have h1 := cro_mem.mp (route_wf ok hg (e ▸ hr)).1
    have : r.1 ≠ p := fun e => by rw [e] at h1; omega
    simp [this]
theorem tak_zero (ok : InsOk cs gs) {p : Int} (h : spOf cs gs p ≤ 0) : ((zsOf cs gs xs).map (takP p)).sum = 0 := by
  refine sum_zero fun z hz => ?_
  obtain ⟨g, hg, e⟩ := zs_mem hz
  unfold takP
  cases hr : z.1 with
  | none => rfl
  | some r =>
    have h1 := (route_wf ok hg (e ▸ hr)).2
    have : r.2 ≠ some p := fun e => by have := h1 p e; omega
    simp [this]
theorem all_zip {α : Type} {as bs : List Int} (hl : as.length = bs.length) : (as.zip bs).all (fun z => decide (z.1 ≤ z.2)) = true ↔ ∀ (j : Nat) (h1 : j < as.length) (h2 : j < bs.length), as[j] ≤ bs[j] := by
  rw [List.all_eq_true]
  constructor
  · intro h j h1 h2
    have : (as.zip bs)[j]? = some (as[j], bs[j]) := by rw [List.getElem?_zip_eq_some]; exact ⟨List.getElem?_eq_getElem h1, List.getElem?_eq_getElem h2⟩
    simpa using h _ (List.mem_of_getElem? this)
  · intro h z hz
    obtain ⟨j, hj, e⟩ := List.mem_iff_getElem.mp hz
    rw [List.length_zip] at hj
    have := h j (by omega) (by omega)
    rw [← e]
    simpa using this
/-- the vectors are the integers that keep to all cuts -/
theorem vec_feas (ok : InsOk cs gs) (hb : ∀ z ∈ zsOf cs gs xs, 0 ≤ z.2) : meetsD cs gs xs = true ↔ Feas (nzP cs gs) (spOf cs gs) (rCro cs gs) (esx cs gs xs) := by
  have hlen := mvOf_len cs.length (zsOf cs gs xs)
  have hget := fun q => mv_get (zs_in (xs := xs) ok) q
  have takNN : ∀ p, 0 ≤ ((zsOf cs gs xs).map (takP p)).sum := fun p => sum_nn fun y hy => by
    obtain ⟨z, hz, rfl⟩ := List.mem_map.mp hy
    have := hb z hz
    unfold takP
    split
    · split <;> omega
    · omega
  have g1 : ∀ q (h : q < cs.length), (mvOf cs.length (zsOf cs gs xs)).1[q]'(by omega) = ((zsOf cs gs xs).map (movP q)).sum := fun q h => by
    rw [← (hget q).1, List.getD_eq_getElem?_getD, List.getElem?_eq_getElem (by omega)]; rfl
  have g2 : ∀ q (h : q < cs.length), (mvOf cs.length (zsOf cs gs xs)).2[q]'(by omega) = ((zsOf cs gs xs).map (takP q)).sum := fun q h => by
    rw [← (hget q).2, List.getD_eq_getElem?_getD, List.getElem?_eq_getElem (by omega)]; rfl
  have hm : meetsD cs gs xs = true ↔ (∀ z ∈ zsOf cs gs xs, z.1 = none → z.2 = 0) ∧ (∀ q (h : q < cs.length), ((zsOf cs gs xs).map (movP q)).sum = mx (- spOf cs gs q)) ∧ (∀ q (h : q < cs.length), ((zsOf cs gs xs).map (takP q)).sum ≤ mx (spOf cs gs q)) := by
    unfold meetsD
    rw [Bool.and_eq_true, Bool.and_eq_true, decide_eq_true_iff, all_zip (α := Int) (by rw [hlen.2, rFre_len])]
    refine ⟨fun h => ⟨fun z hz hn => ?_, fun q hq => ?_, fun q hq => ?_⟩, fun h => ⟨⟨?_, ?_⟩, fun j h1 h2 => ?_⟩⟩
    · have := List.all_eq_true.mp h.1.1 z hz
      unfold goodZ at this
      rw [hn] at this
      simpa using this
    · rw [← g1 q hq, ← (exc_get (gs := gs) hq).1]
      congr 1
      exact h.1.2
    · have := h.2 q (by omega) (by rw [rFre_len]; exact hq)
      rw [g2 q hq, (exc_get (gs := gs) hq).2] at this
      exact this
    · rw [List.all_eq_true]
      intro z hz
      unfold goodZ
      cases hr : z.1 with
      | none => simp [h.1 z hz hr]
      | some r => rfl
    · apply List.ext_getElem
      · rw [hlen.1, rExc_len]
      · intro q h1 h2
        have hq : q < cs.length := by omega
        rw [g1 q hq, (exc_get (gs := gs) hq).1, h.2.1 q hq]
    · have hq : j < cs.length := by omega
      rw [g2 j hq, (exc_get (gs := gs) hq).2]
      exact h.2.2 j hq
  rw [hm]
  constructor
  · rintro ⟨hz, hmv, htk⟩
    refine ⟨fun m => ?_, fun p hp => ?_, ?_⟩
    · rw [FS_esx ok]
      refine sum_nn fun y hy => ?_
      obtain ⟨p, hp, rfl⟩ := List.mem_map.mp hy
      have hp := nz_mem.mp (List.mem_filter.mp hp).1
      obtain ⟨pn, rfl⟩ : ∃ pn : Nat, p = pn := ⟨p.toNat, by omega⟩
      have h1 := hmv pn (by omega)
      have h2 := htk pn (by omega)
      unfold mx at h1 h2
      split at h1 <;> split at h2 <;> omega
    · rw [PS_esx]
      have hp := cro_mem.mp hp
      obtain ⟨pn, rfl⟩ : ∃ pn : Nat, p = pn := ⟨p.toNat, by omega⟩
      have h1 := hmv pn (by omega)
      unfold mx at h1
      split at h1 <;> omega
    · rw [ZS_esx, sum_zero]
      · decide
      · intro z hz'
        cases hr : z.1 with
        | none => exact hz z hz' hr
        | some r => rfl
  · intro Fe
    have one : ∀ p : Int, (0 ≤ p ∧ p < (cs.length : Int)) → spOf cs gs p ≠ 0 → 0 ≤ spOf cs gs p + (((zsOf cs gs xs).map (movP p)).sum - ((zsOf cs gs xs).map (takP p)).sum) := by
      intro p hp hs
      have := Fe.set (fun q => decide (q = p))
      rw [FS_esx ok] at this
      have hf : (nzP cs gs).filter (fun q => decide (q = p)) = [p] := by
        have hin : p ∈ nzP cs gs := nz_mem.mpr ⟨hp, hs⟩
        have nd := nz_nodup cs gs
        generalize nzP cs gs = N at hin nd
        induction N with
        | nil => cases hin
        | cons x N ih =>
          have nd' := List.nodup_cons.mp nd
          by_cases e : x = p
          · subst e
            rw [List.filter_cons_of_pos (by simp)]
            congr 1
            rw [List.filter_eq_nil_iff]
            intro q hq
            have : q ≠ x := fun z => nd'.1 (z ▸ hq)
            simp [this]
          · rw [List.filter_cons_of_neg (by simp [e])]
            rcases List.mem_cons.mp hin with h | h
            · exact absurd h.symm e
            · exact ih h nd'.2
      rw [hf] at this
      simpa using this
    refine ⟨fun z hz hn => ?_, fun q hq => ?_, fun q hq => ?_⟩
    · have h1 := Fe.z
      rw [ZS_esx] at h1
      have h2 : z.2 ≤ ((zsOf cs gs xs).map (fun z => match z.1 with | none => z.2 | some _ => 0)).sum := sum_ge (fun y hy => by
        obtain ⟨z', hz', rfl⟩ := List.mem_map.mp hy
        have := hb z' hz'
        split <;> omega) (List.mem_map.mpr ⟨z, hz, by rw [hn]⟩)
      have := hb z hz
      omega
    · by_cases hs : spOf cs gs q < 0
      · have h1 := one q (by omega) (by omega)
        have h2 := Fe.st q (cro_mem.mpr ⟨by omega, hs⟩)
        rw [PS_esx] at h2
        have h3 := tak_zero (xs := xs) ok (p := q) (by omega)
        unfold mx
        split <;> omega
      · have h1 := mov_zero (xs := xs) ok (p := q) (by omega)
        unfold mx
        split <;> omega
    · by_cases hs : 0 < spOf cs gs q
      · have h1 := one q (by omega) (by omega)
        have h3 := mov_zero (xs := xs) ok (p := q) (by omega)
        unfold mx
        split <;> omega
      · have h1 := tak_zero (xs := xs) ok (p := q) (by omega)
        unfold mx
        split <;> omega
end
/-! the program's own lists of cuts -/
def subsL (ps : List Int) : List (List Int) := ps.foldl (fun acc p => acc ++ acc.map (fun s => s ++ [p])) [[]]
theorem subsL_snoc (ps : List Int) (p : Int) : subsL (ps ++ [p]) = subsL ps ++ (subsL ps).map (fun s => s ++ [p]) := by simp [subsL, List.foldl_append]
def mem (s : List Int) (p : Int) : Bool := s.contains p
theorem subs_all (m : Int → Bool) (N : List Int) : N.filter m ∈ subsL N := by
  have : ∀ l : List Int, l.reverse.filter m ∈ subsL l.reverse := by
    intro l
    induction l with
    | nil => simp [subsL]
    | cons x l ih =>
      rw [List.reverse_cons, subsL_snoc, List.filter_append, List.mem_append]
      by_cases h : m x = true
      · right
        rw [List.filter_cons_of_pos h]
        exact List.mem_map.mpr ⟨_, ih, rfl⟩
      · left
        rw [List.filter_cons_of_neg h]
        simpa using ih
  have := this N.reverse
  rwa [List.reverse_reverse] at this
theorem subs_is {N : List Int} (nd : N.Nodup) {s : List Int} (h : s ∈ subsL N) : N.filter (mem s) = s := by
  have : ∀ l : List Int, l.reverse.Nodup → ∀ s ∈ subsL l.reverse, (∀ x ∈ s, x ∈ l.reverse) ∧ l.reverse.filter (mem s) = s := by
    intro l
    induction l with
    | nil => intro _ s hs; simp [subsL] at hs; subst hs; simp
    | cons x l ih =>
      intro nd s hs
      rw [List.reverse_cons] at nd hs ⊢
      have nd' := List.nodup_append.mp nd
      have hx : x ∉ l.reverse := fun h => nd'.2.2 x h x (by simp) rfl
      rw [subsL_snoc, List.mem_append] at hs
      rcases hs with hs | hs
      · obtain ⟨h1, h2⟩ := ih nd'.1 s hs
        have hxs : x ∉ s := fun z => hx (h1 x z)
        refine ⟨fun y hy => by simp [List.mem_reverse.mp (h1 y hy)], ?_⟩
        rw [List.filter_append, h2, List.filter_cons_of_neg (by simpa [mem] using hxs)]
        simp
      · obtain ⟨s', hs', rfl⟩ := List.mem_map.mp hs
        obtain ⟨h1, h2⟩ := ih nd'.1 s' hs'
        refine ⟨fun y hy => ?_, ?_⟩
        · rcases List.mem_append.mp hy with h | h
          · simp [List.mem_reverse.mp (h1 y h)]
          · simp at h; simp [h]
        · rw [List.filter_append, List.filter_cons_of_pos (by simp [mem])]
          congr 1
          conv => rhs; rw [← h2]
          apply List.filter_congr
          intro y hy
          have : y ≠ x := fun z => hx (z ▸ hy)
          simp [mem, this]
  have := (this N.reverse (by simpa using nd) s (by simpa using h)).2
  simpa using this
def zSg : Rt → Int
  | none => 1
  | some _ => 0
def stSg (p : Int) : Rt → Int
  | some r => if r.1 = p then 1 else 0
  | none => 0
section
variable (N : List Int) (sp : Int → Int) (C : List Int)
def slk (es : List Ed) : List Int := ZS es :: (C.map (fun p => PS sp p es) ++ (subsL N).map (fun s => FS N sp (mem s) es))
def sgn (r : Rt) : List Int := zSg r :: (C.map (fun p => stSg p r) ++ (subsL N).map (fun s => sg (mem s) r))
end
def lows (sl sg : List Int) (c : Int) : List Int := ((sl.zip sg).filter (fun z => decide (z.2 < 0))).map (fun z => c - z.1)
def highs (sl sg : List Int) : List Int := ((sl.zip sg).filter (fun z => decide (0 < z.2))).map (fun z => z.1)
theorem zip_app {α β : Type} {a1 a2 : List α} {b1 b2 : List β} (h : a1.length = b1.length) : (a1 ++ a2).zip (b1 ++ b2) = a1.zip b1 ++ a2.zip b2 := List.zip_append h
theorem zip_maps {α : Type} (f g : α → Int) (l : List α) : (l.map f).zip (l.map g) = l.map (fun x => (f x, g x)) := by
  induction l with
  | nil => rfl
  | cons x l ih => simp [ih]
theorem slk_zip (N : List Int) (sp : Int → Int) (C : List Int) (es : List Ed) (r : Rt) : (slk N sp C es).zip (sgn N C r) = (ZS es, zSg r) :: (C.map (fun p => (PS sp p es, stSg p r)) ++ (subsL N).map (fun s => (FS N sp (mem s) es, sg (mem s) r))) := by
  unfold slk sgn
  rw [List.zip_cons_cons, zip_app (by simp), zip_maps, zip_maps]
/-- FS looks at a set only by its posts in N -/
theorem FS_mem {N : List Int} {sp : Int → Int} {es : List Ed} (hes : ∀ e ∈ es, ∀ r, e.1 = some r → r.1 ∈ N ∧ ∀ y, r.2 = some y → y ∈ N) (m : Int → Bool) : FS N sp (mem (N.filter m)) es = FS N sp m es := by
  have hm : ∀ p ∈ N, mem (N.filter m) p = m p := by
    intro p hp
    unfold mem
    rw [Bool.eq_iff_iff, List.contains_iff_mem, List.mem_filter]
    exact ⟨fun h => h.2, fun h => ⟨hp, h⟩⟩
  unfold FS spareS
  congr 1
  · rw [List.filter_congr hm]
  · congr 1
    apply List.map_congr_left
    intro e he
    obtain ⟨r, l, u⟩ := e
    cases r with
    | none => simp [wE, sg]
    | some r =>
      have h1 := hes _ he r rfl
      rw [wE_some, wE_some, hm _ h1.1]
      congr 1
      cases hr : r.2 with
      | none => rfl
      | some y => exact hm y (h1.2 y hr)
theorem sg_mem {N : List Int} {r : Rt} (h : ∀ q, r = some q → q.1 ∈ N ∧ ∀ y, q.2 = some y → y ∈ N) (m : Int → Bool) : sg (mem (N.filter m)) r = sg m r := by
  have hm : ∀ p ∈ N, mem (N.filter m) p = m p := by
    intro p hp
    unfold mem
    rw [Bool.eq_iff_iff, List.contains_iff_mem, List.mem_filter]
    exact ⟨fun h => h.2, fun h => ⟨hp, h⟩⟩
  cases r with
  | none => rfl
  | some q =>
    have h1 := h q rfl
    have : inb (mem (N.filter m)) q.2 = inb m q.2 := by
      cases hr : q.2 with
      | none => rfl
      | some y => exact hm y (h1.2 y hr)
    simp only [sg, hm _ h1.1, this]
end Pv

namespace Pv
def IsMax (a : Int) (l : List Int) : Prop := a ∈ l ∧ ∀ y ∈ l, y ≤ a
def IsMin (a : Int) (l : List Int) : Prop := a ∈ l ∧ ∀ y ∈ l, a ≤ y
section
variable {N : List Int} {sp : Int → Int} {C : List Int} {es : List Ed}
theorem low_mem {r : Rt} {c y : Int} : y ∈ lows (slk N sp C es) (sgn N C r) c ↔ ∃ s ∈ subsL N, sg (mem s) r < 0 ∧ y = c - FS N sp (mem s) es := by
  unfold lows
  rw [slk_zip]
  simp only [List.mem_map, List.mem_filter, List.mem_cons, List.mem_append, decide_eq_true_eq]
  constructor
  · rintro ⟨z, ⟨h | h | h, hn⟩, rfl⟩
    · subst h; simp only at hn; cases r <;> simp [zSg] at hn
    · obtain ⟨p, hp, rfl⟩ := h; simp only at hn; cases r with | none => simp [stSg] at hn | some r => simp only [stSg] at hn; split at hn <;> omega
    · obtain ⟨s, hs, rfl⟩ := h; exact ⟨s, hs, hn, rfl⟩
  · rintro ⟨s, hs, hn, rfl⟩
    exact ⟨_, ⟨.inr (.inr ⟨s, hs, rfl⟩), hn⟩, rfl⟩
theorem high_mem {r : Rt} {y : Int} : y ∈ highs (slk N sp C es) (sgn N C r) ↔ (r = none ∧ y = ZS es) ∨ (∃ q, r = some q ∧ q.1 ∈ C ∧ y = PS sp q.1 es) ∨ ∃ s ∈ subsL N, 0 < sg (mem s) r ∧ y = FS N sp (mem s) es := by
  unfold highs
  rw [slk_zip]
  simp only [List.mem_map, List.mem_filter, List.mem_cons, List.mem_append, decide_eq_true_eq]
  constructor
  · rintro ⟨z, ⟨h | h | h, hn⟩, rfl⟩
    · subst h
      simp only at hn
      cases r with
      | none => exact .inl ⟨rfl, rfl⟩
      | some r => simp [zSg] at hn
    · obtain ⟨p, hp, rfl⟩ := h
      simp only at hn
      cases r with
      | none => simp [stSg] at hn
      | some r =>
        simp only [stSg] at hn
        split at hn
        case isTrue e => exact .inr (.inl ⟨r, rfl, e ▸ hp, by rw [e]⟩)
        case isFalse e => omega
    · obtain ⟨s, hs, rfl⟩ := h; exact .inr (.inr ⟨s, hs, hn, rfl⟩)
  · rintro (⟨rfl, rfl⟩ | ⟨q, rfl, hq, rfl⟩ | ⟨s, hs, hn, rfl⟩)
    · exact ⟨_, ⟨.inl rfl, by simp [zSg]⟩, rfl⟩
    · exact ⟨_, ⟨.inr (.inl ⟨q.1, hq, rfl⟩), by simp [stSg]⟩, rfl⟩
    · exact ⟨_, ⟨.inr (.inr ⟨s, hs, rfl⟩), hn⟩, rfl⟩
def RIn (N : List Int) (es : List Ed) : Prop := ∀ e ∈ es, ∀ r, e.1 = some r → r.1 ∈ N ∧ ∀ y, r.2 = some y → y ∈ N
/-- the range that the program tells is what is open -/
theorem range_ok (W : Wf N C es) (R : RIn N es) (Fe : Feas N sp C es) {j : Nat} {r : Rt} {c : Int} (he : es[j]? = some (r, 0, c)) {a b : Int} (ha : IsMax a (0 :: lows (slk N sp C es) (sgn N C r) c)) (hb : IsMin b (c :: highs (slk N sp C es) (sgn N C r))) :
    (0 ≤ a ∧ a ≤ c ∧ Opn N sp es (r, 0, c) a) ∧ (0 ≤ b ∧ b ≤ c ∧ Opn N sp es (r, 0, c) b) ∧ ∀ x, 0 ≤ x → x ≤ c → (Opn N sp es (r, 0, c) x ↔ a ≤ x ∧ x ≤ b) := by
  have hm := List.mem_of_getElem? he
  have hc : (0 : Int) ≤ c := W.lu _ hm
  have hr : ∀ q, r = some q → q.1 ∈ N ∧ ∀ y, q.2 = some y → y ∈ N := fun q e => R _ hm q e
  have lo : ∀ m, sg m r < 0 → c - FS N sp m es ≤ a := by
    intro m h
    refine ha.2 _ (List.mem_cons_of_mem _ (low_mem.mpr ⟨N.filter m, subs_all m N, by rw [sg_mem hr]; exact h, by rw [FS_mem R]⟩))
  have hi : ∀ m, 0 < sg m r → b ≤ FS N sp m es := by
    intro m h
    refine hb.2 _ (List.mem_cons_of_mem _ (high_mem.mpr (.inr (.inr ⟨N.filter m, subs_all m N, by rw [sg_mem hr]; exact h, by rw [FS_mem R]⟩))))
  have hp : ∀ q, r = some q → b ≤ PS sp q.1 es := fun q e => hb.2 _ (List.mem_cons_of_mem _ (high_mem.mpr (.inr (.inl ⟨q, e, W.a _ hm q e, rfl⟩))))
  have hz : r = none → b ≤ ZS es := fun e => hb.2 _ (List.mem_cons_of_mem _ (high_mem.mpr (.inl ⟨e, rfl⟩)))
  have a0 : 0 ≤ a := ha.2 0 (by simp)
  have bc : b ≤ c := hb.2 c (by simp)
  have oa : Opn N sp es (r, 0, c) a := by
    refine opn_least W Fe hm lo ?_
    rcases List.mem_cons.mp ha.1 with h | h
    · exact .inl h
    · obtain ⟨s, _, h1, h2⟩ := low_mem.mp h
      exact .inr ⟨mem s, h1, h2⟩
  have ob : Opn N sp es (r, 0, c) b := by
    refine opn_most W Fe hm (fun m h => by have := hi m h; simp only; omega) (fun q e => by have := hp q e; simp only; omega) (fun e => by have := hz e; simp only; omega) ?_
    rcases List.mem_cons.mp hb.1 with h | h
    · exact .inl h
    · rcases high_mem.mp h with ⟨e, h⟩ | ⟨q, e, _, h⟩ | ⟨s, _, h1, h2⟩
      · exact .inr (.inr (.inr ⟨e, by simp only; omega⟩))
      · exact .inr (.inr (.inl ⟨q, e, by simp only; omega⟩))
      · exact .inr (.inl ⟨mem s, h1, by simp only; omega⟩)
  have ac : a ≤ c := by
    rcases List.mem_cons.mp ha.1 with h | h
    · omega
    · obtain ⟨s, _, h1, h2⟩ := low_mem.mp h
      have := Fe.set (mem s)
      omega
  have b0 : 0 ≤ b := by
    rcases List.mem_cons.mp hb.1 with h | h
    · omega
    · rcases high_mem.mp h with ⟨e, h⟩ | ⟨q, e, hq, h⟩ | ⟨s, _, h1, h2⟩
      · have := Fe.z; omega
      · have := Fe.st _ hq; omega
      · have := Fe.set (mem s); omega
  refine ⟨⟨a0, ac, oa⟩, ⟨b0, bc, ob⟩, fun x x0 xc => ⟨fun o => ⟨?_, ?_⟩, fun h => ⟨fun m hm => ?_, fun m hm => ?_, fun q e => ?_, fun e => ?_⟩⟩⟩
  · rcases List.mem_cons.mp ha.1 with h | h
    · omega
    · obtain ⟨s, _, h1, h2⟩ := low_mem.mp h
      have := o.lo (mem s) h1
      simp only at this; omega
  · rcases List.mem_cons.mp hb.1 with h | h
    · omega
    · rcases high_mem.mp h with ⟨e, h⟩ | ⟨q, e, hq, h⟩ | ⟨s, _, h1, h2⟩
      · have := o.z e; simp only at this; omega
      · have := o.p q e; simp only at this; omega
      · have := o.hi (mem s) h1; simp only at this; omega
  · have := lo m hm; simp only; omega
  · have := hi m hm; simp only; omega
  · have := hp q e; simp only; omega
  · have := hz e; simp only; omega
/-- what a group's integer takes of each slack -/
def used (c x s : Int) : Int := if s < 0 then c - x else if 0 < s then x else 0
theorem slk_set {j : Nat} {r : Rt} {c : Int} (he : es[j]? = some (r, 0, c)) (x : Int) : slk N sp C (es.set j (r, x, x)) = List.zipWith (fun s g => s - used c x g) (slk N sp C es) (sgn N C r) := by
  unfold slk sgn
  rw [List.zipWith_cons_cons, List.zipWith_append (by simp), List.zipWith_map, List.zipWith_map, List.zipWith_self, List.zipWith_self]
  congr 1
  · rw [Z_set he]
    cases r <;> simp [lZ, zSg, used]
  · congr 1
    · apply List.map_congr_left
      intro p _
      rw [P_set he]
      cases r with
      | none => simp [lP, stSg, used]
      | some q =>
        simp only [lP, stSg, used]
        by_cases h : q.1 = p <;> simp [h]
    · apply List.map_congr_left
      intro s _
      rw [F_set he]
      unfold wE used
      simp only
      by_cases h1 : sg (mem s) r < 0
      · simp only [h1, if_true]; omega
      · by_cases h2 : 0 < sg (mem s) r
        · simp only [h1, h2, if_true, if_false]; omega
        · simp only [h1, h2, if_false]; omega
end
/-! vectors -/
def IsVec (cs : List Int) (gs : List Gp) (xs : List Int) : Prop := xs.length = gs.length ∧ (∀ (j : Nat) (g : Gp) (x : Int), gs[j]? = some g → xs[j]? = some x → 0 ≤ x ∧ x ≤ g.2) ∧ meetsD cs gs xs = true
abbrev FeasI (cs : List Int) (gs : List Gp) (es : List Ed) : Prop := Feas (nzP cs gs) (spOf cs gs) (rCro cs gs) es
section
variable {cs : List Int} {gs : List Gp} {xs : List Int}
theorem zs_nn (hl : xs.length = gs.length) (hb : ∀ (j : Nat) (g : Gp) (x : Int), gs[j]? = some g → xs[j]? = some x → 0 ≤ x ∧ x ≤ g.2) : ∀ z ∈ zsOf cs gs xs, 0 ≤ z.2 := by
  intro z hz
  obtain ⟨j, hj, e⟩ := List.mem_iff_getElem.mp hz
  have hjg : j < gs.length := by have := hj; unfold zsOf at this; rw [List.length_zip, List.length_map] at this; omega
  have e2 := zs_at (cs := cs) hl hjg
  rw [List.getElem?_eq_getElem hj, e] at e2
  cases e2
  exact (hb j gs[j] xs[j] (List.getElem?_eq_getElem hjg) (List.getElem?_eq_getElem (by omega))).1
theorem vec_iff (ok : InsOk cs gs) : IsVec cs gs xs ↔ xs.length = gs.length ∧ (∀ (j : Nat) (g : Gp) (x : Int), gs[j]? = some g → xs[j]? = some x → 0 ≤ x ∧ x ≤ g.2) ∧ FeasI cs gs (esx cs gs xs) := by
  unfold IsVec
  constructor
  · rintro ⟨h1, h2, h3⟩; exact ⟨h1, h2, (vec_feas ok (zs_nn h1 h2)).mp h3⟩
  · rintro ⟨h1, h2, h3⟩; exact ⟨h1, h2, (vec_feas ok (zs_nn h1 h2)).mpr h3⟩
theorem rin_es0 (ok : InsOk cs gs) : RIn (nzP cs gs) (es0 cs gs) := by
  intro e he r hr
  obtain ⟨g, hg, rfl⟩ := List.mem_map.mp he
  have h := route_wf ok hg hr
  have h1 := cro_mem.mp h.1
  exact ⟨nz_mem.mpr ⟨h1.1, by omega⟩, fun y hy => by have := h.2 y hy; exact nz_mem.mpr ⟨this.2, by omega⟩⟩
/-- groups j with their integers, the others open -/
theorem vec_of_feas (ok : InsOk cs gs) {es : List Ed} (hl : es.length = gs.length) (hr : ∀ (j : Nat) (e : Ed) (g : Gp), es[j]? = some e → gs[j]? = some g → e.1 = routeOf cs gs g ∧ 0 ≤ e.2.1 ∧ e.2.1 ≤ e.2.2 ∧ e.2.2 ≤ g.2) (Fe : FeasI cs gs es) :
    ∃ xs, IsVec cs gs xs ∧ ∀ (j : Nat) (e : Ed) (x : Int), es[j]? = some e → xs[j]? = some x → e.2.1 ≤ x ∧ x ≤ e.2.2 := by
  have W : Wf (nzP cs gs) (rCro cs gs) es := wf_of ok fun e he => by
    obtain ⟨j, hj, e1⟩ := List.mem_iff_getElem.mp he
    have := hr j e gs[j] (by rw [List.getElem?_eq_getElem hj, e1]) (List.getElem?_eq_getElem (by omega))
    exact ⟨this.2.2.1, gs[j], List.getElem_mem _, this.1⟩
  obtain ⟨xs, lx, bx, Fx⟩ := complete W Fe
  refine ⟨xs, (vec_iff ok).mpr ⟨by omega, fun j g x hg hx => ?_, ?_⟩, bx⟩
  · have hj : j < es.length := by have := (List.getElem?_eq_some_iff.mp hg).1; omega
    have h1 := bx j es[j] x (List.getElem?_eq_getElem hj) hx
    have h2 := hr j es[j] g (List.getElem?_eq_getElem hj) hg
    omega
  · have : List.zipWith (fun (e : Ed) x => ((e.1, x, x) : Ed)) es xs = esx cs gs xs := by
      unfold esx
      apply List.ext_getElem
      · simp; omega
      · intro j h1 h2
        rw [List.length_zipWith] at h1
        rw [List.getElem_zipWith, List.getElem_zipWith]
        rw [(hr j es[j] gs[j] (List.getElem?_eq_getElem (by omega)) (List.getElem?_eq_getElem (by omega))).1]
    rw [this] at Fx
    exact Fx
theorem feas_of_vec (ok : InsOk cs gs) (hv : IsVec cs gs xs) {es : List Ed} (hl : es.length = gs.length) (hr : ∀ (j : Nat) (e : Ed) (g : Gp) (x : Int), es[j]? = some e → gs[j]? = some g → xs[j]? = some x → e.1 = routeOf cs gs g ∧ e.2.1 ≤ x ∧ x ≤ e.2.2) : FeasI cs gs es := by
  obtain ⟨h1, h2, h3⟩ := (vec_iff ok).mp hv
  refine feas_loose h3 (by unfold esx; rw [List.length_zipWith]; omega) fun j e f he hf => ?_
  have hj : j < gs.length := by have := (List.getElem?_eq_some_iff.mp he).1; omega
  have hf2 : f = (routeOf cs gs gs[j], xs[j], xs[j]) := by
    unfold esx at hf
    rw [List.getElem?_zipWith, List.getElem?_eq_getElem hj, List.getElem?_eq_getElem (show j < xs.length by omega)] at hf
    simpa using hf.symm
  have := hr j e gs[j] xs[j] he (List.getElem?_eq_getElem hj) (List.getElem?_eq_getElem (by omega))
  subst hf2
  exact this
theorem es0_at {j : Nat} {g : Gp} (hg : gs[j]? = some g) : (es0 cs gs)[j]? = some (routeOf cs gs g, 0, g.2) := by
  unfold es0; rw [List.getElem?_map, hg]; rfl
/-- there is a vector exactly if all cuts have slack -/
theorem some_vec (ok : InsOk cs gs) : (∃ xs, IsVec cs gs xs) ↔ FeasI cs gs (es0 cs gs) := by
  constructor
  · rintro ⟨xs, hv⟩
    refine feas_of_vec ok hv (by simp [es0]) fun j e g x he hg hx => ?_
    rw [es0_at hg] at he
    cases he
    exact ⟨rfl, hv.2.1 j g x hg hx⟩
  · intro Fe
    obtain ⟨xs, hv, _⟩ := vec_of_feas ok (by simp [es0]) (fun j e g he hg => by
      rw [es0_at hg] at he
      cases he
      exact ⟨rfl, Int.le_refl _, by have := (ok.gp g (List.mem_of_getElem? hg)).2.2.1; simp only; omega, Int.le_refl _⟩) Fe
    exact ⟨xs, hv⟩
/-- the range of a group in all vectors -/
theorem range_vec (ok : InsOk cs gs) (Fe : FeasI cs gs (es0 cs gs)) {j : Nat} {g : Gp} (hg : gs[j]? = some g) {a b : Int} (ha : IsMax a (0 :: lows (slk (nzP cs gs) (spOf cs gs) (rCro cs gs) (es0 cs gs)) (sgn (nzP cs gs) (rCro cs gs) (routeOf cs gs g)) g.2))
    (hb : IsMin b (g.2 :: highs (slk (nzP cs gs) (spOf cs gs) (rCro cs gs) (es0 cs gs)) (sgn (nzP cs gs) (rCro cs gs) (routeOf cs gs g)))) :
    (∃ xs, IsVec cs gs xs ∧ xs[j]? = some a) ∧ (∃ xs, IsVec cs gs xs ∧ xs[j]? = some b) ∧ (∀ xs x, IsVec cs gs xs → xs[j]? = some x → a ≤ x ∧ x ≤ b) ∧ ∀ x, a ≤ x → x ≤ b → ∃ xs, IsVec cs gs xs ∧ xs[j]? = some x := by
  have he := es0_at (cs := cs) hg
  have W := wf_es0 ok
  obtain ⟨⟨a0, ac, oa⟩, ⟨b0, bc, ob⟩, hx⟩ := range_ok W (rin_es0 ok) Fe he ha hb
  have hjg := (List.getElem?_eq_some_iff.mp hg).1
  have ex : ∀ x, 0 ≤ x → x ≤ g.2 → Opn (nzP cs gs) (spOf cs gs) (es0 cs gs) (routeOf cs gs g, 0, g.2) x → ∃ xs, IsVec cs gs xs ∧ xs[j]? = some x := by
    intro x x0 xc o
    have F' := (opn_iff W Fe he x).mpr o
    obtain ⟨xs, hv, bx⟩ := vec_of_feas ok (by simp [es0]) (fun k e g' he' hg' => by
      by_cases hk : k = j
      · subst hk
        rw [List.getElem?_set_self (by simp [es0]; exact hjg)] at he'
        rw [hg] at hg'
        cases he'
        cases hg'
        exact ⟨rfl, x0, Int.le_refl _, xc⟩
      · rw [List.getElem?_set_ne (fun z => hk z.symm), es0_at hg'] at he'
        cases he'
        exact ⟨rfl, Int.le_refl _, by have := (ok.gp g' (List.mem_of_getElem? hg')).2.2.1; simp only; omega, Int.le_refl _⟩) F'
    refine ⟨xs, hv, ?_⟩
    have hjx : j < xs.length := by rw [hv.1]; exact hjg
    have := bx j _ xs[j] (List.getElem?_set_self (by simp [es0]; exact hjg)) (List.getElem?_eq_getElem hjx)
    rw [List.getElem?_eq_getElem hjx]
    simp only at this
    congr 1; omega
  refine ⟨ex a a0 ac oa, ex b b0 bc ob, fun xs x hv hxj => ?_, fun x h1 h2 => ex x (by omega) (by omega) ((hx x (by omega) (by omega)).mpr ⟨h1, h2⟩)⟩
  have hb := hv.2.1 j g x hg hxj
  refine (hx x hb.1 hb.2).mp ?_
  refine (opn_iff W Fe he x).mp (feas_of_vec ok hv (by simp [es0]) fun k e g' y he' hg' hy => ?_)
  by_cases hk : k = j
  · subst hk
    rw [List.getElem?_set_self (by simp [es0]; exact hjg)] at he'
    rw [hg] at hg'
    rw [hxj] at hy
    cases he'
    cases hg'
    cases hy
    exact ⟨rfl, Int.le_refl _, Int.le_refl _⟩
  · rw [List.getElem?_set_ne (fun z => hk z.symm), es0_at hg'] at he'
    cases he'
    exact ⟨rfl, hv.2.1 k g' y hg' hy⟩
end
end Pv

namespace Pv
open PySem PySem.Spec PyProof.Rows L2
/-! a comprehension whose elements show what R tells, as long as the lists that are not X stand -/
def LcX {α β : Type} (R : Hp → V → β → Prop) (H1 : Hp) (D : Addr) (zs : List α) (F : α → Option β) (i : Nat) (H : Hp) : Prop := Same H1 H ∧ ∃ vs, H D = some (.lst vs) ∧ Rl (R H) vs ((zs.take i).filterMap F)
section
variable {α β : Type} {X : Addr → Prop} {R : Hp → V → β → Prop} {H1 H H' : Hp} {D : Addr} {zs : List α} {F : α → Option β} {i : Nat} {x : α} {y : V} {b : β}
theorem LcX.start (nD : H1 D = none) : LcX R H1 D zs F 0 (upd H1 D (.lst [])) := ⟨sameNew nD, [], upd_same, by simpa using Rl.nil⟩
theorem LcX.yes (hR : ∀ H H' v b, LX X H H' → R H v b → R H' v b) (hX : X D) (h : LcX R H1 D zs F i H) (nD : H1 D = none) (s : Same H H') (hx : zs[i]? = some x) (hF : F x = some b) (hy : R H' y b) (hi : i ≤ 1000000) : ∃ acc, H' D = some (.lst acc) ∧ acc.length < sizeLine ∧ LcX R H1 D zs F (i + 1) (upd H' D (.lst (acc ++ [y]))) := by
  obtain ⟨s1, vs, e, hv⟩ := h
  have e' := s _ _ e
  refine ⟨vs, e', ?_, samePut (s1.trans s) nD, vs ++ [y], upd_same, ?_⟩
  · have h1 := List.length_filterMap_le F (zs.take i)
    have h2 := List.length_take_le i zs
    rw [hv.1]
    exact small (by omega)
  · have tk : LX X H' (upd H' D (.lst (vs ++ [y]))) := .put e' hX
    rw [take_snoc hx, List.filterMap_append]
    simp only [List.filterMap_cons, hF, List.filterMap_nil]
    exact Rl.snoc (hv.mono fun v r h => hR _ _ _ _ ((LX.of s).trans tk) h) (hR _ _ _ _ tk hy)
theorem LcX.no (hR : ∀ H H' v b, LX X H H' → R H v b → R H' v b) (h : LcX R H1 D zs F i H) (s : Same H H') (hx : zs[i]? = some x) (hF : F x = none) : LcX R H1 D zs F (i + 1) H' := by
  obtain ⟨s1, vs, e, hv⟩ := h
  refine ⟨s1.trans s, vs, s _ _ e, ?_⟩
  rw [take_snoc hx, List.filterMap_append]
  simp only [List.filterMap_cons, hF, List.filterMap_nil, List.append_nil]
  exact hv.mono fun v r h => hR _ _ _ _ (.of s) h
theorem LcX.done (h : LcX R H1 D zs F i H) (hi : zs.length ≤ i) : ∃ vs, H D = some (.lst vs) ∧ Rl (R H) vs (zs.filterMap F) := by
  obtain ⟨_, vs, e, hv⟩ := h
  rw [List.take_of_length_le hi] at hv
  exact ⟨vs, e, hv⟩
end
theorem fm_mapI {α : Type} (f : α → Int) (l : List α) : l.filterMap (fun x => some (V.int (f x))) = (l.map f).map V.int := by rw [fm_map, List.map_map]; rfl
/-! cuts in the heap -/
def CuV (X : Addr → Prop) (K : PySem.W.Frag) (H : Hp) (v : V) (c : Int × List Int) : Prop := ∃ T q, v = .ref T ∧ SqT K H T [.int c.1, .ref q] ∧ ¬ X q ∧ H q = some (.lst (c.2.map V.int))
theorem CuV.lx {X : Addr → Prop} {K : PySem.W.Frag} {H H' : Hp} {v : V} {c : Int × List Int} (h : CuV X K H v c) (l : LX X H H') : CuV X K H' v c := by
  obtain ⟨T, q, e, h1, h2, h3⟩ := h; exact ⟨T, q, e, l.tk.sq h1, h2, l.ls _ _ h3 h2⟩
theorem CuV.weak {X X' : Addr → Prop} {K : PySem.W.Frag} {H : Hp} {v : V} {c : Int × List Int} (h : CuV X K H v c) (w : ∀ a, X' a → X a) : CuV X' K H v c := by
  obtain ⟨T, q, e, h1, h2, h3⟩ := h; exact ⟨T, q, e, h1, fun z => h2 (w _ z), h3⟩
theorem RtAll.at {K : PySem.W.Frag} {H : Hp} {vs : List V} {rs : List Rt} {j : Nat} {v : V} (h : RtAll K H vs rs) (hv : vs[j]? = some v) : ∃ r, rs[j]? = some r ∧ RtV K H v r := by
  have hj : j < rs.length := by rw [← h.1]; exact (List.getElem?_eq_some_iff.mp hv).1
  exact ⟨rs[j], List.getElem?_eq_getElem hj, h.2 j v _ hv (List.getElem?_eq_getElem hj)⟩
/-! the program's numbers -/
def spareL (cs : List Int) (gs : List Gp) : List Int := (cs.zip (rDem cs gs)).map fun q => q.1 - q.2
theorem spareL_len (cs : List Int) (gs : List Gp) : (spareL cs gs).length = cs.length := by simp [spareL, rDem_len]
theorem spareL_at {cs : List Int} {gs : List Gp} {p : Nat} (h : p < cs.length) : (spareL cs gs)[p]'(by rw [spareL_len]; exact h) = spOf cs gs p := by
  have hd : p < (rDem cs gs).length := by rw [rDem_len]; exact h
  have e : (spareL cs gs)[p]? = some (cs[p] - (rDem cs gs)[p]) := by
    unfold spareL
    rw [List.getElem?_map, (List.getElem?_zip_eq_some.mpr ⟨List.getElem?_eq_getElem h, List.getElem?_eq_getElem hd⟩ : (cs.zip (rDem cs gs))[p]? = some (cs[p], (rDem cs gs)[p]))]
    rfl
  have e2 : (spareL cs gs)[p]? = some ((spareL cs gs)[p]'(by rw [spareL_len]; exact h)) := List.getElem?_eq_getElem _
  rw [e] at e2
  rw [← Option.some.inj e2]
  unfold spOf
  rw [Int.toNat_natCast, List.getD_eq_getElem?_getD, List.getD_eq_getElem?_getD, List.getElem?_eq_getElem h, List.getElem?_eq_getElem hd]
  rfl
/-- the posts by their spare places -/
theorem spare_posts (cs : List Int) (gs : List Gp) (f : Int → Bool) : ((List.range (spareL cs gs).length).filterMap fun (k : Nat) => if f ((spareL cs gs).getD k 0) = true then some (k : Int) else none) = ((List.range cs.length).map (fun (k : Nat) => (k : Int))).filter (fun p => f (spOf cs gs p)) := by
  rw [spareL_len, List.filter_map]
  have : ∀ l : List Nat, (∀ k ∈ l, k < cs.length) → (l.filterMap fun (k : Nat) => if f ((spareL cs gs).getD k 0) = true then some (k : Int) else none) = (l.filter ((fun p => f (spOf cs gs p)) ∘ fun (k : Nat) => (k : Int))).map (fun (k : Nat) => (k : Int)) := by
    intro l
    induction l with
    | nil => intro _; rfl
    | cons k l ih =>
      intro h
      have hk := h k (by simp)
      have e : (spareL cs gs).getD k 0 = spOf cs gs k := by rw [List.getD_eq_getElem?_getD, List.getElem?_eq_getElem (by rw [spareL_len]; exact hk), Option.getD_some, spareL_at hk]
      have ih := ih fun k hk => h k (by simp [hk])
      by_cases hf : f (spOf cs gs k) = true
      · rw [List.filterMap_cons_some (b := (k : Int)) (by rw [e, if_pos hf]), ih, List.filter_cons_of_pos (by simpa using hf)]; rfl
      · rw [List.filterMap_cons_none (by rw [e, if_neg hf]), ih, List.filter_cons_of_neg (by simpa using hf)]
  exact this _ fun k hk => List.mem_range.mp hk
theorem cro_list (cs : List Int) (gs : List Gp) : rCro cs gs = ((List.range cs.length).map (fun (k : Nat) => (k : Int))).filter (fun p => decide (spOf cs gs p < 0)) := by
  unfold rCro sel
  rw [List.filter_map]
  congr 1
  apply List.filter_congr
  intro k hk
  have hk := List.mem_range.mp hk
  rw [Function.comp, List.getD_eq_getElem?_getD, List.getElem?_eq_getElem (by rw [rExc_len]; exact hk), Option.getD_some, (exc_get hk).1, decide_eq_decide]
  unfold mx
  split <;> omega
theorem feas0 {cs : List Int} {gs : List Gp} (ok : InsOk cs gs) (h : ∀ s ∈ subsL (nzP cs gs), 0 ≤ FS (nzP cs gs) (spOf cs gs) (mem s) (es0 cs gs)) : FeasI cs gs (es0 cs gs) := by
  refine ⟨fun m => ?_, fun p hp => ?_, ?_⟩
  · rw [← FS_mem (rin_es0 ok)]; exact h _ (subs_all m _)
  · have hp := cro_mem.mp hp
    unfold PS
    rw [sum_zero fun e he => ?_]
    · omega
    · obtain ⟨g, hg, rfl⟩ := List.mem_map.mp he
      unfold lP
      split
      · split <;> rfl
      · rfl
  · unfold ZS
    rw [sum_zero fun e he => ?_]
    · decide
    · obtain ⟨g, hg, rfl⟩ := List.mem_map.mp he
      unfold lZ
      split <;> rfl
theorem ZS0 (cs : List Int) (gs : List Gp) : ZS (es0 cs gs) = 0 := by
  unfold ZS
  rw [sum_zero fun e he => ?_]
  · rfl
  · obtain ⟨g, hg, rfl⟩ := List.mem_map.mp he
    unfold lZ
    split <;> rfl
theorem PS0 (cs : List Int) (gs : List Gp) (p : Int) : PS (spOf cs gs) p (es0 cs gs) = - spOf cs gs p := by
  unfold PS
  rw [sum_zero fun e he => ?_]
  · omega
  · obtain ⟨g, hg, rfl⟩ := List.mem_map.mp he
    unfold lP
    split
    · split <;> rfl
    · rfl
/-- the slack of a set of posts, as the program adds it up -/
theorem FS0 {cs : List Int} {gs : List Gp} {s : List Int} (hs : s ∈ subsL (nzP cs gs)) : FS (nzP cs gs) (spOf cs gs) (mem s) (es0 cs gs) = (s.map (spOf cs gs)).sum + ((gs.filter (fun g => decide (sg (mem s) (routeOf cs gs g) < 0))).map (fun g => g.2)).sum := by
  unfold FS spareS
  rw [subs_is (nz_nodup cs gs) hs]
  congr 1
  unfold es0
  rw [List.map_map]
  clear hs
  generalize routeOf cs gs = ro
  induction gs with
  | nil => rfl
  | cons g gs ih =>
    simp only [List.map_cons, List.sum_cons, Function.comp] at ih ⊢
    rw [ih]
    by_cases h : sg (mem s) (ro g) < 0
    · rw [List.filter_cons_of_pos (by simpa using h)]
      simp [wE, h]
    · rw [List.filter_cons_of_neg (by simpa using h)]
      have : wE (mem s) (ro g, 0, g.2) = 0 := by unfold wE; simp [h]
      rw [this]; omega
theorem sg_val (s : List Int) (r : Int × Option Int) : sg (mem s) (some r) = (if inV (oV r.2) (s.map V.int) = true then 1 else 0) - (if inV (.int r.1) (s.map V.int) = true then 1 else 0) := by
  have h1 : inV (.int r.1) (s.map V.int) = mem s r.1 := inV_ints _ _
  have h2 : inV (oV r.2) (s.map V.int) = inb (mem s) r.2 := by
    cases hr : r.2 with
    | none => exact inV_opt [] s
    | some y => exact inV_ints _ _
  rw [h1, h2]; rfl
theorem fmCongr {α β : Type} {f g : α → Option β} : ∀ {l : List α}, (∀ x ∈ l, f x = g x) → l.filterMap f = l.filterMap g
  | [], _ => rfl
  | x :: l, h => by
    have h1 := h x (by simp)
    have h2 := fmCongr (l := l) fun y hy => h y (by simp [hy])
    simp only [List.filterMap_cons, h1, h2]
def cutF (cs : List Int) (gs : List Gp) : List (Int × List Int) := [(0, (gs.map (routeOf cs gs)).map zSg)] ++ (rCro cs gs).map (fun p => (- spOf cs gs p, (gs.map (routeOf cs gs)).map (stSg p))) ++ (subsL (nzP cs gs)).map (fun s => (FS (nzP cs gs) (spOf cs gs) (mem s) (es0 cs gs), (gs.map (routeOf cs gs)).map (sg (mem s))))
theorem cutF_slk (cs : List Int) (gs : List Gp) : (cutF cs gs).map (fun c => c.1) = slk (nzP cs gs) (spOf cs gs) (rCro cs gs) (es0 cs gs) := by
  simp [cutF, slk, ZS0, PS0, Function.comp_def]
theorem cutF_sgn {cs : List Int} {gs : List Gp} {j : Nat} (hj : j < gs.length) : (cutF cs gs).map (fun c => c.2.getD j 0) = sgn (nzP cs gs) (rCro cs gs) (routeOf cs gs gs[j]) := by
  simp [cutF, sgn, Function.comp_def, List.getElem?_eq_getElem hj]
theorem cutF_len {cs : List Int} {gs : List Gp} {c : Int × List Int} (h : c ∈ cutF cs gs) : c.2.length = gs.length := by
  unfold cutF at h
  rcases List.mem_append.mp h with h | h
  · rcases List.mem_append.mp h with h | h
    · simp at h; subst h; simp
    · obtain ⟨p, _, rfl⟩ := List.mem_map.mp h; simp
  · obtain ⟨s, _, rfl⟩ := List.mem_map.mp h; simp
/-! lists in a list -/
def QV (X : Addr → Prop) (H : Hp) (v : V) (ns : List Int) : Prop := ∃ q, v = .ref q ∧ ¬ X q ∧ H q = some (.lst (ns.map V.int))
theorem QV.lx {X : Addr → Prop} {H H' : Hp} {v : V} {ns : List Int} (h : QV X H v ns) (l : LX X H H') : QV X H' v ns := by
  obtain ⟨q, e, h1, h2⟩ := h; exact ⟨q, e, h1, l.ls _ _ h2 h1⟩
theorem QV.rows {X : Addr → Prop} {H : Hp} {vs : List V} {nss : List (List Int)} (h : Rl (QV X H) vs nss) : ∃ rows : List Addr, vs = rows.map V.ref ∧ rows.length = nss.length ∧ ∀ (k : Nat) (q : Addr) (ns : List Int), rows[k]? = some q → nss[k]? = some ns → H q = some (.lst (ns.map V.int)) := by
  let f : V → Addr := fun v => match v with | .ref a => a | _ => 0
  have hv : vs = (vs.map f).map V.ref := by
    apply List.ext_getElem
    · simp
    · intro k h1 h2
      obtain ⟨ns, _, q, e, _⟩ := h.at (List.getElem?_eq_getElem h1)
      simp only [List.getElem_map]
      rw [e]
  refine ⟨vs.map f, hv, by rw [List.length_map, h.1], fun k q ns h1 h2 => ?_⟩
  rw [List.getElem?_map] at h1
  obtain ⟨v, hv', e⟩ := Option.map_eq_some_iff.mp h1
  obtain ⟨q', e', _, h3⟩ := h.2 k v ns hv' h2
  subst e'
  have : q' = q := e
  subst this
  exact h3
end Pv

namespace Pv
open PySem PySem.Spec PyProof.Rows L2
abbrev sMx : Stmt := topS 24
theorem scMx : FnScope ["_law_deck_here", "_law_row", "_law_left", "_law_found"] ["_law_deck_here", "_law_row"] (defScope sMx) := ⟨rfl, rfl, rfl, by decide +kernel, rfl, by decide +kernel, by decide +kernel⟩
abbrev sLl : Stmt := topS 26
theorem scLl : FnScope ["_law_row", "_law_post", "_law_posts", "_law_count", "_law_other"] ["_law_row", "_law_post"] (defScope sLl) := ⟨rfl, rfl, rfl, by decide +kernel, rfl, by decide +kernel, by decide +kernel⟩
abbrev sSe : Stmt := topS 30
theorem scSe : FnScope ["_law_posts", "_law_found", "_law_post", "_law_row"] ["_law_posts"] (defScope sSe) := ⟨rfl, rfl, rfl, by decide +kernel, rfl, by decide +kernel, by decide +kernel⟩
theorem lay_ints : ∀ ns : List Int, PyData.canLayAll0 (ns.map PyData.int) = true
  | [] => by simp [PyData.canLayAll0]
  | n :: ns => by simp [PyData.canLayAll0, PyData.canLay0, lay_ints ns]
theorem dep_ints : ∀ ns : List Int, PyData.depthAll (ns.map PyData.int) = 0
  | [] => by simp [PyData.depthAll]
  | n :: ns => by simp [PyData.depthAll, PyData.depth, dep_ints ns]
theorem shaped_ints (ns : List Int) : SeqAt.shaped (.list (ns.map PyData.int)) = true := by
  show (PyData.canLay0 (.list (ns.map PyData.int)) && decide (PyData.depth (.list (ns.map PyData.int)) ≤ 64)) = true
  rw [Bool.and_eq_true]
  refine ⟨by simp only [PyData.canLay0]; exact lay_ints ns, decide_eq_true ?_⟩
  simp only [PyData.depth, dep_ints]; omega
theorem eqv_empty (ds : List PyData) : PyData.eqv (.list ds) (.list []) = ds.isEmpty := by
  cases ds <;> simp [PyData.eqv, PyData.eqvAll]
section
variable {P : Program} {w : World} {K : PySem.W.Frag} {mg : Str → Option Value} {base : Heap}
def spMx (K : PySem.W.Frag) : Sp := fun vs H Q _ => ∃ (st c r l : Addr) (t : Nat) (ns : List Int), vs = [.ref st, .ref l] ∧ DU H st c r t ∧ t + 50 ≤ 900000 ∧ H l = some (.lst (ns.map V.int)) ∧ ns.length ≤ 50 ∧
  ∀ (H' : Hp) (p : Addr) (ms : List Int), (∀ x ∈ ms, x ∈ ns) → (ns.Nodup → ms.Nodup) → ms.length = ns.length → H' p = some (.lst (ms.map V.int)) → p ≠ st → p ≠ c → p ≠ r → DU H' st c r (t + ns.length) → Ext st r H H' → Q (.ref p) H'
set_option maxHeartbeats 4000000 in
theorem ok_Mx {f fDr : Addr} {fd fdDr : FuncData} (F : Fun K "_law_mixed" "_law_mixed" sMx f fd)
    (FDr : Fun K "_law_draw" "_law_draw" sDr fDr fdDr) (bDr : Binds K fdDr ["_law_deck_here", "_law_many"] []) (gDr : mg "_law_draw" = some (.ref fDr)) (GDr : FnOk P w K mg base CX0 1 fDr fdDr ["_law_deck_here", "_law_many"] spDraw)
    (m_list : mg "list" = none) (m_len : mg "len" = none) :
    FnOk P w K mg base CX0 2 f fd ["_law_deck_here", "_law_row"] (spMx K) := by
  refine F.ok scMx (fun vs H Q E h => ?_) (fun cdv A outer s H vs Q E hr h => ?_)
  · obtain ⟨st, c, r, l, t, ns, rfl, _⟩ := h; rfl
  · obtain ⟨st, c, r, l, t, ns, rfl, hd, ht, hl, hn, q⟩ := h
    have hu64 : (A.deeper (envOfC "_law_mixed" (defScope sMx) s.heap.objs.size f cdv)).units + 64 < cLine := by have := hr.un; omega
    refine ⟨_, pss_cons (ps_set (i := 2) scMx.nd rfl (.inl rfl) (pe_callTy call_list_of (by rfl) m_list (by decide +kernel) (pa_cons (pv 1) pa_nil)))
      (pss_cons (ps_set (i := 3) scMx.nd rfl (.inl rfl) (pe_lst (pa_nil)))
      (pss_cons (ps_while PassesOwn.never (pt_cmpR (op_neD hu64) (pv 2) (pe_lst (pa_nil)) (nomark _))
        (pss_one (ps_expr (pe_bm PySem.F.plainAttrs_list PySem.F.slot_list_append PySem.F.type_list_append mt_append (pv 3) (pa_cons (pe_bm PySem.F.plainAttrs_list PySem.F.slot_list_pop PySem.F.type_list_pop mt_popAt (pv 2) (pa_cons (pe_call GDr (hr.mono (by omega)) (by rfl) gDr FDr.kp bDr .nil pass0 (pa_cons (pv 0) (pa_cons (pe_callB call_lenQ (by rfl) m_len PySem.boot_len (pa_cons (pv 2) pa_nil)) pa_nil))) pa_nil)) pa_nil)))))
      (pss_one (ps_ret (pv 3))))), ?_⟩
    refine ⟨.ref l, rfl, l, _, rfl, .inl (SqL.of hl), fun Le nLe => ⟨Nat.zero_le _, fun Fo nFo => ?_⟩⟩
    have oLe := hd.off nLe
    have d1 := hd.new nLe (o := .lst (ns.map V.int))
    have oFo := d1.off nFo
    have fFo : H Fo = none := freeOf nFo
    have nLF : Le ≠ Fo := ne_of_none upd_same nFo
    refine ⟨fun m σ H2 => ∃ (ls ms : List Int) (t2 : Nat), σ = [some (.ref st), some (.ref l), some (.ref Le), some (.ref Fo)] ∧ ls.length = m ∧ DU H2 st c r t2 ∧ t2 = t + ms.length ∧ Ext st r H H2 ∧
        H2 Le = some (.lst (ls.map V.int)) ∧ H2 Fo = some (.lst (ms.map V.int)) ∧ ls.length + ms.length = ns.length ∧ (∀ x ∈ ls, x ∈ ns) ∧ (∀ x ∈ ms, x ∈ ns) ∧ (ns.Nodup → (ms ++ ls).Nodup),
      ⟨ns.length, ns, [], t, rfl, rfl, d1.new nFo, rfl, (Ext.of (sameNew nLe)).trans (Ext.of (sameNew nFo)), upNew nFo upd_same, upd_same, rfl, fun x h => h, fun x h => by simp at h, fun h => by simpa using h⟩, ?_⟩
    rintro m σ H2 ⟨ls, ms, t2, rfl, rfl, d2, ht2, x2, eL, eF, hlen, bl, bm, bn⟩
    refine ⟨.ref Le, rfl, Nat.zero_le _, fun p np => ⟨.list (ls.map PyData.int), .list [], .lst (SqL.of (upNew np eL)) (dp_ints ls), .lst (SqL.of upd_same) .nil, shaped_ints ls, by decide, _, rfl, ?_⟩⟩
    rw [eqv_empty]
    have oN := d2.off np
    have eL2 := upNew np (o := .lst []) eL
    have eF2 := upNew np (o := .lst []) eF
    cases ls with
    | nil =>
      have hml : ms.length = ns.length := by simpa using hlen
      have dz : DU (upd H2 p (.lst [])) st c r (t + ns.length) := by rw [← hml, ← ht2]; exact d2.new np
      exact ⟨.ref Fo, rfl, q _ Fo ms bm (fun z => by simpa using bn z) hml eF2 oFo.1 oFo.2.1 oFo.2.2 dz (x2.trans (Ext.of (sameNew np)))⟩
    | cons a ls' =>
      have hpos : 0 < (a :: ls').length := by simp
      refine ⟨fun σ' H' => ∃ (ls2 ms2 : List Int) (t2 : Nat), σ' = [some (.ref st), some (.ref l), some (.ref Le), some (.ref Fo)] ∧ ls2.length = ls'.length ∧ DU H' st c r t2 ∧ t2 = t + ms2.length ∧ Ext st r H H' ∧
        H' Le = some (.lst (ls2.map V.int)) ∧ H' Fo = some (.lst (ms2.map V.int)) ∧ ls2.length + ms2.length = ns.length ∧ (∀ x ∈ ls2, x ∈ ns) ∧ (∀ x ∈ ms2, x ∈ ns) ∧ (ns.Nodup → (ms2 ++ ls2).Nodup), ?_, ?_⟩
      · rintro σ' H' ⟨ls2, ms2, t3, e1, e2, r3⟩
        exact ⟨ls'.length, by simp, ls2, ms2, t3, e1, e2, r3⟩
      · refine ⟨.ref Fo, rfl, .inl ⟨rfl, _, SqL.of eF2⟩, .ref Le, rfl, .inl ⟨rfl, _, SqL.of eL2⟩, .ref st, rfl, .ref Le, rfl, Le, _, rfl, .inl (SqL.of eL2), st, c, r, t2, _, rfl, d2.new np, by omega, by rw [List.length_map]; omega, by rw [List.length_map]; omega, fun H3 d h0 h1 D3 X3 => ?_⟩
        have eL3 := X3 _ _ eL2 oLe.1 oLe.2.2
        have eF3 := X3 _ _ eF2 oFo.1 oFo.2.2
        rw [List.length_map] at h1
        have hk : d.toNat < (a :: ls').length := by omega
        have eF4 : (upd H3 Le (.lst (((a :: ls').map V.int).eraseIdx d.toNat))) Fo = some (.lst (ms.map V.int)) := by rw [upd_ne nLF.symm]; exact eF3
        refine ⟨Le, _, d, d.toNat, .int (a :: ls')[d.toNat], rfl, rfl, eL3, by omega, by simp at hlen h1; omega, seqIndex_of h0 (by rw [List.length_map]; exact h1), by rw [List.getElem?_map, List.getElem?_eq_getElem hk]; rfl, Fo, _, _, rfl, rfl, eF4, ?_, ?_⟩
        · rw [List.length_map]; exact small (by simp at hlen; omega)
        refine ⟨(a :: ls').eraseIdx d.toNat, ms ++ [(a :: ls')[d.toNat]], t2 + 1, rfl, ?_, (D3.put oLe).put oFo, by simp; omega, ExtPut (ExtPut ((x2.trans (Ext.of (sameNew np))).trans X3) nLe) fFo, ?_, ?_, ?_, ?_, ?_, fun z => nodup_step hk (bn z)⟩
        · rw [List.length_eraseIdx_of_lt hk]; simp
        · rw [upd_ne nLF, upd_same, erase_map]
        · rw [upd_same, List.map_append]; rfl
        · rw [List.length_eraseIdx_of_lt hk]; simp at hlen ⊢; omega
        · exact fun x hx => bl x (List.mem_of_mem_eraseIdx hx)
        · intro x hx
          rw [List.mem_append] at hx
          rcases hx with h | h
          · exact bm x h
          · simp only [List.mem_singleton] at h; rw [h]; exact bl _ (List.getElem_mem hk)
def spLl (K : PySem.W.Frag) : Sp := fun vs H Q _ => ∃ (a : Addr) (p : Int) (g : Gp), vs = [.ref a, .int p] ∧ Dp K H (.ref a) (dGrp g) ∧ g.1.length ≤ 6 ∧
  ∀ (H' : Hp) (q : Addr) (g' : Gp), Same H H' → Dp K H' (.ref q) (dGrp g') → g'.2 = g.2 → (∀ x ∈ g'.1, x ∈ g.1) → g'.1.length ≤ g.1.length → Q (.ref q) H'
set_option maxHeartbeats 4000000 in
theorem ok_Ll {f : Addr} {fd : FuncData} (F : Fun K "_law_led" "_law_led" sLl f fd)
    (m_tuple : mg "tuple" = none) :
    FnOk P w K mg base CX0 1 f fd ["_law_row", "_law_post"] (spLl K) := by
  refine F.ok scLl (fun vs H Q E h => ?_) (fun cdv A outer s H vs Q E hr h => ?_)
  · obtain ⟨a, p, g, rfl, _⟩ := h; rfl
  · obtain ⟨a, p, g, rfl, hG, g6, q⟩ := h
    refine ⟨_, pss_cons (ps_asg (pv 0) (pg_tup rfl (pgs_cons (pg_name (i := 2) scLl.nd rfl (.inl rfl)) (pgs_cons (pg_name (i := 3) scLl.nd rfl (.inl rfl)) pgs_nil))))
      (pss_cons (ps_if (pt_cmpR op_notIn_seq (pv 1) (pv 2) (by rfl))
        (pss_one (ps_ret (pv 0))) pss_nil)
      (pss_one (ps_ret (pe_tup (pa_cons (pe_op op_catA (pe_tup (pa_cons (pv 1) pa_nil)) (pe_callTy call_tupQ (by rfl) m_tuple (by decide +kernel) (pa_cons (pe_lc (own := [("_law_other", 4)]) (g := gName 4) (tt := tTest (tOp rNe (tVar 4) (tVar 1))) (te := tVar 4) rfl scLl.nd (pi_tup (pv 2)) (blkOk_by (N := ["_law_row", "_law_post", "_law_posts", "_law_count", "_law_other"]) (sc := defScope sLl) (by decide +kernel)) (fun _ _ _ _ _ => pg_name (i := 4) scLl.nd rfl (.inl rfl)) (fun _ _ _ _ _ => pts_one (pt_cmpR op_ne (pv 4) (pv 1) (nomark _))) (fun _ _ _ _ _ => pv 4)) pa_nil))) (pa_cons (pv 3) pa_nil)))))), ?_⟩
    obtain ⟨A, pA, e, hA, hP⟩ := grp_ref hG
    cases e
    refine ⟨.ref a, rfl, a, _, rfl, hA, rfl, _, _, rfl, _, _, rfl, rfl, ?_⟩
    refine ⟨.int p, rfl, .ref pA, rfl, pA, _, rfl, .inr hP, rfl, flat_ints _, _, rfl, ?_⟩
    rw [if_pos rfl, inV_ints]
    cases hc : g.1.contains p with
    | false => exact iteT ⟨_, rfl, q _ _ g (Same.refl _) hG rfl (fun x h => h) (Nat.le_refl _)⟩
    | true =>
    refine iteF ?_
    refine ⟨.int p, rfl, (show (1 : Nat) ≤ sizeLine by decide), fun Z nZ => ?_⟩
    have sZ := sameNew (o := .tup [.int p]) nZ
    refine ⟨.ref pA, rfl, pA, rfl, ⟨_, sqS sZ hP⟩, fun D nD => lc_it (walk_tup (K := K) (a := pA) (xs := g.1.map V.int))
      (LcP _ D g.1 (fun x => if decide (x = p) = true then none else some (.int x))) (.start nD) (fun j H2 _ h => sqS (sZ.trans h.1) hP) ?_ ?_⟩
    · rintro j v H2 H3 hj hL ⟨rfl, hv⟩
      have hv : (g.1.map V.int)[j]? = some v := hv
      rw [List.length_map] at hj
      rw [atS hj] at hv
      cases hv
      have hx := List.getElem?_eq_getElem hj
      refine ⟨rfl, .int g.1[j], rfl, .int p, rfl, rfl, _, rfl, ?_⟩
      by_cases e : g.1[j] = p
      · exact iteFF (by simp [e]) (hL.no (Same.refl _) hx (by rw [if_pos (decide_eq_true e)]))
      · exact iteTT (by simp [e]) ⟨_, rfl, hL.yes nD (Same.refl _) hx (by rw [if_neg (by simpa using e)]) (by omega)⟩
    rintro H2 hL
    have e2 := hL.done (by rw [List.length_map]; exact Nat.le_refl _)
    have em : g.1.filterMap (fun x => if decide (x = p) = true then none else some (V.int x)) = (g.1.filter (fun x => !decide (x = p))).map V.int := by
      generalize g.1 = l
      induction l with
      | nil => rfl
      | cons x l ih =>
        by_cases h : x = p
        · rw [List.filterMap_cons_none (by rw [if_pos (decide_eq_true h)]), List.filter_cons_of_neg (by simp [h])]; exact ih
        · rw [List.filterMap_cons_some (by rw [if_neg (by simpa using h)]), List.filter_cons_of_pos (by simp [h]), List.map_cons, ih]
    rw [em] at e2
    refine ⟨D, _, rfl, .inl ⟨SqL.of e2, fun T nT => ?_⟩⟩
    have sT := sameNew (o := .tup ((g.1.filter (fun x => !decide (x = p))).map V.int)) nT
    have hlen : (g.1.filter (fun x => !decide (x = p))).length + 1 ≤ g.1.length := by
      have hm : p ∈ g.1 := List.contains_iff_mem.mp hc
      have h1 : (g.1.filter (fun x => decide (x = p))).length + (g.1.filter (fun x => !decide (x = p))).length = g.1.length := by
        generalize g.1 = l
        induction l with
        | nil => rfl
        | cons x l ih => by_cases h : x = p <;> simp [h] <;> omega
      have h2 : 0 < (g.1.filter (fun x => decide (x = p))).length := List.length_pos_of_mem (List.mem_filter.mpr ⟨hm, decide_eq_true rfl⟩)
      omega
    refine cat_eq (sqS (hL.1.trans sT) (SqT.of upd_same)) (SqT.of upd_same) (by rw [List.length_map]; exact small6 (by simp; omega)) (fun H3 C s3 hC => ⟨.int g.2, rfl, (show (2 : Nat) ≤ sizeLine by decide), fun R nR => ?_⟩)
    have sR := sameNew (o := .tup [.ref C, .int g.2]) nR
    refine q _ R (p :: g.1.filter (fun x => !decide (x = p)), g.2) ((sZ.trans hL.1).trans (sT.trans (s3.trans sR))) (.tup (SqT.of upd_same) (.cons (dI_sq (sqS sR hC)) (.cons (.int _) .nil))) rfl (fun x hx => ?_) (by simp; omega)
    rcases List.mem_cons.mp hx with h | h
    · rw [h]; exact List.contains_iff_mem.mp hc
    · exact (List.mem_filter.mp h).1
def spSe (K : PySem.W.Frag) : Sp := fun vs H Q _ => ∃ (a : Addr) (ps : List Int), vs = [.ref a] ∧ H a = some (.lst (ps.map V.int)) ∧ ps.length ≤ 6 ∧ ∀ H' p vs, Same H H' → H' p = some (.lst vs) → Rl (TuV K H') vs (subsL ps) → vs.length ≤ 64 → (∀ s ∈ subsL ps, s.length ≤ 6) → H p = none → Q (.ref p) H'
set_option maxHeartbeats 4000000 in
theorem ok_Se {f : Addr} {fd : FuncData} (F : Fun K "_law_sets" "_law_sets" sSe f fd)
     :
    FnOk P w K mg base CX0 1 f fd ["_law_posts"] (spSe K) := by
  refine F.ok scSe (fun vs H Q E h => ?_) (fun cdv A outer s H vs Q E hr h => ?_)
  · obtain ⟨a, ps, rfl, _⟩ := h; rfl
  · obtain ⟨a, ps, rfl, hA, l6, q⟩ := h
    refine ⟨_, pss_cons (ps_set (i := 1) scSe.nd rfl (.inl rfl) (pe_lst (pa_cons (pe_tup (pa_nil)) pa_nil)))
      (pss_cons (ps_for PassesOwn.never rfl (pi_list (pv 0)) (pg_name (i := 2) scSe.nd rfl (.inr rfl))
        (pss_one (ps_set (i := 1) scSe.nd rfl (.inl rfl) (pe_op op_cat (pv 1) (pe_lc (own := [("_law_row", 3)]) (g := gName 3) (tt := tYes) (te := tOp (rCatA K) (tVar 3) (tTup (tCons (tVar 2) tNil))) rfl scSe.nd (pi_list (pv 1)) (blkOk_by (N := ["_law_posts", "_law_found", "_law_post", "_law_row"]) (sc := defScope sSe) (by decide +kernel)) (fun _ _ _ _ _ => pg_name (i := 3) scSe.nd rfl (.inl rfl)) (fun _ _ _ _ _ => pts_nil) (fun _ _ _ _ _ => pe_op op_catA (pv 3) (pe_tup (pa_cons (pv 2) pa_nil))))))))
      (pss_one (ps_ret (pv 1)))), ?_⟩
    refine ⟨Nat.zero_le _, fun T0 nT0 => ⟨(show (1 : Nat) ≤ sizeLine by decide), fun Fo nFo => ?_⟩⟩
    have sF := (sameNew (o := .tup []) nT0).trans (sameNew (o := .lst [.ref T0]) nFo)
    refine ⟨.ref a, rfl, a, rfl, ⟨_, SqL.of (sF _ _ hA)⟩, for_it (walk_list (K := K) (a := a) (xs := ps.map V.int))
      (fun j σ H3 => ∃ (Fj : Addr) (y2 : Option V) (vs : List V), σ = [some (.ref a), some (.ref Fj), y2, none] ∧ Same H H3 ∧ H3 Fj = some (.lst vs) ∧ Rl (TuV K H3) vs (subsL (ps.take j)) ∧ vs.length ≤ 2 ^ j ∧ (∀ s ∈ subsL (ps.take j), s.length ≤ j) ∧ H Fj = none)
      ⟨Fo, none, [.ref T0], rfl, sF, upd_same, ⟨rfl, ?_⟩, by simp, fun s hs => (by simp [subsL] at hs; subst hs; simp), freeOf nFo⟩ (fun j σ H3 _ h => by obtain ⟨_, _, _, _, s3, _⟩ := h; exact SqL.of (s3 _ _ hA)) ?_ ?_⟩
    · intro j v r h1 h2
      cases j with
      | zero => simp [subsL] at h1 h2; subst h1; subst h2; exact ⟨T0, rfl, SqT.of (upNew nFo upd_same)⟩
      | succ j => simp at h1
    · rintro j v σ H3 H4 hlt ⟨Fj, y2, vs, rfl, s3, e3, hv3, l3, b3, fF⟩ ⟨rfl, hv⟩
      have hv : (ps.map V.int)[j]? = some v := hv
      rw [List.getElem?_map] at hv
      obtain ⟨p, hp, rfl⟩ := Option.map_eq_some_iff.mp hv
      rw [List.length_map] at hlt
      have l3' : vs.length ≤ 64 := Nat.le_trans l3 (Nat.le_trans (Nat.pow_le_pow_right (by decide) (show j ≤ 6 by omega)) (by decide))
      refine ⟨.ref Fj, rfl, .ref Fj, rfl, Fj, rfl, ⟨_, SqL.of e3⟩, fun D nD => lc_it (walk_list (K := K) (a := Fj) (xs := vs))
        (LcR (TuV K) H4 D (subsL (ps.take j)) (fun s => some (s ++ [p]))) (.start nD) (fun k H _ h => SqL.of (h.1 _ _ e3)) ?_ ?_⟩
      · rintro k v H5 H6 hk hL ⟨rfl, hv⟩
        have hv : vs[k]? = some v := hv
        obtain ⟨s', hs', Tn, rfl, hTn⟩ := hv3.at hv
        have hsl := b3 s' (List.mem_of_getElem? hs')
        refine ⟨rfl, .ref Tn, rfl, .int p, rfl, (show (1 : Nat) ≤ sizeLine by decide), fun N nN => cat_eq (sqS (hL.1.trans (sameNew nN)) hTn) (SqT.of upd_same) (by rw [List.length_map]; exact small6 (by simp; omega)) (fun H9 pp s9 hpp => ?_)⟩
        exact hL.yes (fun _ _ _ _ tk h => h.tk tk) nD ((sameNew nN).trans s9) hs' rfl ⟨pp, rfl, by rw [List.map_append]; exact hpp⟩ (by omega)
      rintro H5 hL
      obtain ⟨ws, e5, hw5⟩ := hL.done (Nat.le_of_eq hv3.1.symm)
      have em : (subsL (ps.take j)).filterMap (fun s => some (s ++ [p])) = (subsL (ps.take j)).map (fun s => s ++ [p]) := by
        generalize subsL (ps.take j) = l
        induction l with
        | nil => rfl
        | cons x l ih => simp [ih]
      rw [em] at hw5
      have lw : ws.length = vs.length := by rw [hw5.1, List.length_map, hv3.1]
      refine ⟨Fj, D, _, _, rfl, rfl, hL.1 _ _ e3, e5, small6 (by omega), fun N nN => ?_⟩
      have sN := sameNew (o := .lst (vs ++ ws)) nN
      have hsub : subsL (ps.take (j + 1)) = subsL (ps.take j) ++ (subsL (ps.take j)).map (fun s => s ++ [p]) := by rw [take_snoc hp, subsL_snoc]
      refine ⟨N, _, vs ++ ws, rfl, (s3.trans hL.1).trans sN, upd_same, ?_, by rw [List.length_append, Nat.pow_succ]; omega, ?_, ?_⟩
      · rw [hsub]
        exact (hv3.mono fun v r h => h.tk (.of (hL.1.trans sN))).app (hw5.mono fun v r h => h.tk (.of sN))
      · intro s' hs'
        rw [hsub] at hs'
        rcases List.mem_append.mp hs' with h | h
        · have := b3 s' h; omega
        · obtain ⟨t, ht, rfl⟩ := List.mem_map.mp h
          have := b3 t ht
          simp; omega
      · cases e : H N with
        | none => rfl
        | some o => have := (s3.trans hL.1) _ _ e; rw [nN] at this; cases this
    · rintro σ H3 ⟨Fj, y2, vs, rfl, s3, e3, hv3, l3, b3, fF⟩
      rw [List.length_map, List.take_length] at hv3 b3
      rw [List.length_map] at l3
      have l3' : vs.length ≤ 64 := Nat.le_trans l3 (Nat.le_trans (Nat.pow_le_pow_right (by decide) l6) (by decide))
      exact ⟨_, rfl, q _ Fj vs s3 e3 hv3 l3' (fun s hs => Nat.le_trans (b3 s hs) l6) fF⟩
end
end Pv

namespace Pv
open PySem PySem.Spec PyProof.Rows L2
/-! vectors that have begun -/
def edP (cs : List Int) (gs : List Gp) (xs : List Int) (j : Nat) (g : Gp) : Ed := match xs[j]? with | some x => (routeOf cs gs g, x, x) | none => (routeOf cs gs g, 0, g.2)
def esP (cs : List Int) (gs : List Gp) (xs : List Int) : List Ed := gs.mapIdx (edP cs gs xs)
abbrev slkP (cs : List Int) (gs : List Gp) (xs : List Int) : List Int := slk (nzP cs gs) (spOf cs gs) (rCro cs gs) (esP cs gs xs)
abbrev sgnP (cs : List Int) (gs : List Gp) (g : Gp) : List Int := sgn (nzP cs gs) (rCro cs gs) (routeOf cs gs g)
structure Good (cs : List Int) (gs : List Gp) (xs : List Int) : Prop where
  le : xs.length ≤ gs.length
  bd : ∀ (j : Nat) (g : Gp) (x : Int), gs[j]? = some g → xs[j]? = some x → 0 ≤ x ∧ x ≤ g.2
  fe : FeasI cs gs (esP cs gs xs)
section
variable {cs : List Int} {gs : List Gp} {xs : List Int}
theorem esP_get (j : Nat) : (esP cs gs xs)[j]? = gs[j]?.map (edP cs gs xs j) := by unfold esP; rw [List.getElem?_mapIdx]
theorem esP_len : (esP cs gs xs).length = gs.length := by unfold esP; rw [List.length_mapIdx]
theorem esP_nil : esP cs gs [] = es0 cs gs := by
  apply List.ext_getElem?
  intro j
  rw [esP_get]; unfold es0; rw [List.getElem?_map]
  cases gs[j]? <;> simp [edP]
theorem esP_at {g : Gp} (hg : gs[xs.length]? = some g) : (esP cs gs xs)[xs.length]? = some (routeOf cs gs g, 0, g.2) := by
  rw [esP_get, hg]
  simp [edP]
theorem esP_snoc {g : Gp} (hg : gs[xs.length]? = some g) (x : Int) : esP cs gs (xs ++ [x]) = (esP cs gs xs).set xs.length (routeOf cs gs g, x, x) := by
  apply List.ext_getElem?
  intro j
  rw [List.getElem?_set, esP_get, esP_get, esP_len]
  have hl := (List.getElem?_eq_some_iff.mp hg).1
  by_cases e : xs.length = j
  · subst e
    rw [if_pos rfl, if_pos hl, hg]
    simp [edP]
  · rw [if_neg e]
    cases hj : gs[j]? with
    | none => rfl
    | some h =>
      have e2 : (xs ++ [x])[j]? = xs[j]? := by
        rw [List.getElem?_append]
        by_cases hlt : j < xs.length
        · rw [if_pos hlt]
        · rw [if_neg hlt]
          have : j - xs.length ≠ 0 := by omega
          obtain ⟨m, hm⟩ := Nat.exists_eq_succ_of_ne_zero this
          rw [hm, List.getElem?_eq_none (l := xs) (by omega)]
          simp
      simp only [Option.map_some, edP, e2]
theorem slkP_snoc {g : Gp} (hg : gs[xs.length]? = some g) (x : Int) : slkP cs gs (xs ++ [x]) = List.zipWith (fun s t => s - used g.2 x t) (slkP cs gs xs) (sgnP cs gs g) := by
  unfold slkP
  rw [esP_snoc hg]
  exact slk_set (esP_at hg) x
theorem esP_full (h : xs.length = gs.length) : esP cs gs xs = esx cs gs xs := by
  apply List.ext_getElem?
  intro j
  rw [esP_get]; unfold esx; rw [List.getElem?_zipWith]
  cases hj : gs[j]? with
  | none => rfl
  | some g =>
    have hl := (List.getElem?_eq_some_iff.mp hj).1
    have : xs[j]? = some (xs[j]'(by omega)) := List.getElem?_eq_getElem (by omega)
    simp [edP, this]
theorem esP_route {j : Nat} {e : Ed} (he : (esP cs gs xs)[j]? = some e) : ∃ g, gs[j]? = some g ∧ e.1 = routeOf cs gs g ∧ e = edP cs gs xs j g := by
  rw [esP_get] at he
  obtain ⟨g, hg, rfl⟩ := Option.map_eq_some_iff.mp he
  refine ⟨g, hg, ?_, rfl⟩
  unfold edP; split <;> rfl
theorem wf_esP (ok : InsOk cs gs) : Wf (nzP cs gs) (rCro cs gs) (esP cs gs xs) := by
  refine wf_of ok fun e he => ?_
  obtain ⟨j, hj⟩ := List.getElem?_of_mem he
  obtain ⟨g, hg, h1, h2⟩ := esP_route hj
  have hm := List.mem_of_getElem? hg
  refine ⟨?_, g, hm, h1⟩
  have := (ok.gp g hm)
  rw [h2]; unfold edP
  split
  · exact Int.le_refl _
  · show (0 : Int) ≤ g.2
    have W := (wf_es0 ok).lu (routeOf cs gs g, 0, g.2) (List.mem_of_getElem? (es0_at hg))
    exact W
theorem rin_esP (ok : InsOk cs gs) : RIn (nzP cs gs) (esP cs gs xs) := by
  intro e he r hr
  obtain ⟨j, hj⟩ := List.getElem?_of_mem he
  obtain ⟨g, hg, h1, h2⟩ := esP_route hj
  exact rin_es0 ok _ (List.mem_of_getElem? (es0_at hg)) r (by rw [← hr, h1])
theorem Good.take (h : Good cs gs xs) (k : Nat) : Good cs gs (xs.take k) := by
  refine ⟨by rw [List.length_take]; have := h.le; omega, fun j g x hg hx => ?_, ?_⟩
  · rw [List.getElem?_take] at hx
    split at hx
    · exact h.bd j g x hg hx
    · cases hx
  · refine feas_loose h.fe (by rw [esP_len, esP_len]) fun j e f he hf => ?_
    obtain ⟨g, hg, h1, h2⟩ := esP_route he
    obtain ⟨g', hg', h1', h2'⟩ := esP_route hf
    rw [hg] at hg'; cases hg'
    refine ⟨by rw [h1, h1'], ?_⟩
    rw [h2, h2']
    unfold edP
    rw [List.getElem?_take]
    by_cases hk : j < k
    · rw [if_pos hk]; split <;> exact ⟨Int.le_refl _, Int.le_refl _⟩
    · rw [if_neg hk]
      cases hx : xs[j]? with
      | none => exact ⟨Int.le_refl _, Int.le_refl _⟩
      | some x => exact h.bd j g x hg hx
theorem good_nil (h : FeasI cs gs (es0 cs gs)) : Good cs gs [] := ⟨Nat.zero_le _, fun j g x _ hx => by simp at hx, by rw [esP_nil]; exact h⟩
theorem good_vec (ok : InsOk cs gs) (h : xs.length = gs.length) : Good cs gs xs ↔ IsVec cs gs xs := by
  rw [vec_iff ok, ← esP_full h]
  exact ⟨fun g => ⟨h, g.bd, g.fe⟩, fun ⟨_, b, f⟩ => ⟨Nat.le_of_eq h, b, f⟩⟩
theorem range_good (ok : InsOk cs gs) (G : Good cs gs xs) {g : Gp} (hg : gs[xs.length]? = some g) {a b : Int} (ha : IsMax a (0 :: lows (slkP cs gs xs) (sgnP cs gs g) g.2)) (hb : IsMin b (g.2 :: highs (slkP cs gs xs) (sgnP cs gs g))) :
    0 ≤ a ∧ a ≤ b ∧ b ≤ g.2 ∧ ∀ x, Good cs gs (xs ++ [x]) ↔ a ≤ x ∧ x ≤ b := by
  have he := esP_at (cs := cs) hg
  have W := wf_esP (xs := xs) ok
  obtain ⟨⟨a0, ac, oa⟩, ⟨b0, bc, ob⟩, hx⟩ := range_ok W (rin_esP ok) G.fe he ha hb
  have hl := (List.getElem?_eq_some_iff.mp hg).1
  have ab : a ≤ b := ((hx a a0 ac).mp oa).2
  refine ⟨a0, ab, bc, fun x => ⟨fun h => ?_, fun ⟨h1, h2⟩ => ?_⟩⟩
  · have hb := h.bd xs.length g x hg (by simp)
    refine (hx x hb.1 hb.2).mp ((opn_iff W G.fe he x).mp ?_)
    have := h.fe
    rw [esP_snoc hg] at this
    exact this
  · refine ⟨by rw [List.length_append]; simp; omega, fun j g' y hg' hy => ?_, ?_⟩
    · rw [List.getElem?_append] at hy
      split at hy
      · exact G.bd j g' y hg' hy
      · by_cases e : j = xs.length
        · subst e
          simp at hy; subst hy
          rw [hg] at hg'; cases hg'
          omega
        · have : j - xs.length ≠ 0 := by omega
          obtain ⟨m, hm⟩ := Nat.exists_eq_succ_of_ne_zero this
          rw [hm] at hy; simp at hy
    · rw [esP_snoc hg]
      exact (opn_iff W G.fe he x).mpr ((hx x (by omega) (by omega)).mpr ⟨h1, h2⟩)
end
/-! the order of vectors -/
def ltL : List Int → List Int → Prop
  | x :: xs, y :: ys => x < y ∨ (x = y ∧ ltL xs ys)
  | _, _ => False
theorem ltL_snoc : ∀ {xs ys : List Int} {x y : Int}, xs.length = ys.length → (ltL (xs ++ [x]) (ys ++ [y]) ↔ ltL xs ys ∨ (xs = ys ∧ x < y))
  | [], [], x, y, _ => by simp [ltL]
  | a :: xs, b :: ys, x, y, h => by
    have ih := @ltL_snoc xs ys x y (by simpa using h)
    simp only [List.cons_append, ltL, ih, List.cons.injEq]
    clear h ih
    constructor
    · rintro (h | ⟨e, h | ⟨e', h⟩⟩)
      · exact .inl (.inl h)
      · exact .inl (.inr ⟨e, h⟩)
      · exact .inr ⟨⟨e, e'⟩, h⟩
    · rintro ((h | ⟨e, h⟩) | ⟨⟨e, e'⟩, h⟩)
      · exact .inl h
      · exact .inr ⟨e, .inl h⟩
      · exact .inr ⟨e, .inr ⟨e', h⟩⟩
  | [], b :: ys, x, y, h => by simp at h
  | a :: xs, [], x, y, h => by simp at h
theorem ltL_irr : ∀ {xs : List Int}, ¬ ltL xs xs
  | [] => fun h => h
  | x :: xs => fun h => by rcases h with h | ⟨_, h⟩; · omega
                           · exact ltL_irr h
theorem ltL_trans : ∀ {xs ys zs : List Int}, ltL xs ys → ltL ys zs → ltL xs zs
  | x :: xs, y :: ys, z :: zs, h1, h2 => by
    rcases h1 with h1 | ⟨e1, h1⟩ <;> rcases h2 with h2 | ⟨e2, h2⟩
    · exact .inl (by omega)
    · exact .inl (by omega)
    · exact .inl (by omega)
    · exact .inr ⟨by omega, ltL_trans h1 h2⟩
  | [], _, _, h, _ => h.elim
  | _ :: _, [], _, h, _ => h.elim
  | _ :: _, _ :: _, [], _, h => h.elim
theorem ltL_tri : ∀ {xs ys : List Int}, xs.length = ys.length → ltL xs ys ∨ xs = ys ∨ ltL ys xs
  | [], [], _ => .inr (.inl rfl)
  | x :: xs, y :: ys, h => by
    rcases Int.lt_trichotomy x y with h1 | h1 | h1
    · exact .inl (.inl h1)
    · subst h1
      rcases @ltL_tri xs ys (by simpa using h) with h | h | h
      · exact .inl (.inr ⟨rfl, h⟩)
      · subst h; exact .inr (.inl rfl)
      · exact .inr (.inr (.inr ⟨rfl, h⟩))
    · exact .inr (.inr (.inl h1))
  | [], _ :: _, h => by simp at h
  | _ :: _, [], h => by simp at h
def ordE (e : Int) (a b : List Int) : Prop := if e = 0 then (a = b ∨ ltL a b) else (b = a ∨ ltL b a)
theorem ord_step {e : Int} {ys zs : List Int} {v z : Int} (hz : zs[ys.length]? = some z) (h : ordE e ys (zs.take ys.length)) (hv : ys = zs.take ys.length → if e = 0 then v ≤ z else z ≤ v) : ordE e (ys ++ [v]) (zs.take (ys.length + 1)) := by
  have hl := (List.getElem?_eq_some_iff.mp hz).1
  have lt : (zs.take ys.length).length = ys.length := by rw [List.length_take]; omega
  have et : zs.take (ys.length + 1) = zs.take ys.length ++ [z] := by rw [List.take_add_one, hz]; rfl
  rw [et]
  unfold ordE at *
  by_cases he : e = 0
  · rw [if_pos he] at h hv ⊢
    rw [ltL_snoc lt.symm]
    rcases h with h | h
    · have := hv h
      by_cases e2 : v = z
      · left; rw [e2, ← h]
      · right; right; exact ⟨h, by omega⟩
    · exact .inr (.inl h)
  · rw [if_neg he] at h hv ⊢
    rw [ltL_snoc lt]
    rcases h with h | h
    · have := hv h.symm
      by_cases e2 : v = z
      · left; rw [e2, h]
      · right; right; exact ⟨h, by omega⟩
    · exact .inr (.inl h)
/-- the first, the last vector among those that begin so -/
structure ExtOf (cs : List Int) (gs : List Gp) (xs : List Int) (e : Int) (ys : List Int) : Prop where
  len : ys.length = gs.length
  good : Good cs gs ys
  pre : ys.take xs.length = xs
  ord : ∀ zs, Good cs gs zs → zs.length = gs.length → zs.take xs.length = xs → ordE e ys zs
end Pv

namespace Pv
open PySem PySem.Spec PyProof.Rows L2
/-! cuts by pairs of crowded posts and reserve posts, one group fixed -/
theorem permSum {l l' : List Int} (h : l.Perm l') : l.sum = l'.sum := by
  induction h with
  | nil => rfl
  | cons x _ ih => simp [ih]
  | swap x y l => simp only [List.sum_cons]; omega
  | trans _ _ h1 h2 => rw [h1, h2]
theorem sum_subset {f : Int → Int} : ∀ {l l' : List Int}, l.Nodup → (∀ p ∈ l, p ∈ l') → (∀ p ∈ l', 0 ≤ f p) → (l.map f).sum ≤ (l'.map f).sum
  | [], l', _, _, h => by
    have : 0 ≤ (l'.map f).sum := sum_nn fun x hx => by obtain ⟨p, hp, rfl⟩ := List.mem_map.mp hx; exact h p hp
    simpa using this
  | x :: l, l', nd, hs, h => by
    have hx := hs x (List.mem_cons_self ..)
    obtain ⟨h1, h2⟩ := List.nodup_cons.mp nd
    have hp := List.perm_cons_erase hx
    have e : (l'.map f).sum = f x + ((l'.erase x).map f).sum := by
      have := permSum (hp.map f)
      simpa using this
    have := sum_subset (f := f) (l := l) (l' := l'.erase x) h2 (fun p hp' => by
      have hne : p ≠ x := fun z => h1 (z ▸ hp')
      exact (List.mem_erase_of_ne hne).mpr (hs p (List.mem_cons_of_mem _ hp'))) (fun p hp' => h p (List.mem_of_mem_erase hp'))
    simp only [List.map_cons, List.sum_cons]
    omega
theorem sum_pos_part {f : Int → Int} (l : List Int) (h : ∀ p ∈ l, 0 ≤ f p) : (l.map f).sum = ((l.filter fun p => decide (0 < f p)).map f).sum := by
  induction l with
  | nil => rfl
  | cons x l ih =>
    have ih := ih fun p hp => h p (List.mem_cons_of_mem _ hp)
    have hx := h x (List.mem_cons_self ..)
    by_cases h1 : 0 < f x
    · rw [List.filter_cons_of_pos (by simpa using h1)]; simp only [List.map_cons, List.sum_cons, ih]
    · rw [List.filter_cons_of_neg (by simpa using h1)]; simp only [List.map_cons, List.sum_cons, ih]; omega
theorem sum_ind {N : List Int} (nd : N.Nodup) (m : Int → Bool) {q x : Int} (hq : q ∈ N) : ((N.filter m).map (fun p => if q = p then x else 0)).sum = if m q = true then x else 0 := by
  induction N with
  | nil => simp at hq
  | cons y N ih =>
    obtain ⟨h1, h2⟩ := List.nodup_cons.mp nd
    by_cases e : q = y
    · subst e
      have z : ((N.filter m).map (fun p => if q = p then x else 0)).sum = 0 := sum_zero fun p hp => by
        have : q ≠ p := fun z => h1 (z ▸ (List.mem_filter.mp hp).1)
        rw [if_neg this]
      by_cases hm : m q = true
      · rw [List.filter_cons_of_pos hm, if_pos hm]; simp [z]
      · rw [List.filter_cons_of_neg hm, if_neg hm, z]
    · have hq' : q ∈ N := by
        rcases List.mem_cons.mp hq with h | h
        · exact absurd h e
        · exact h
      have ih := ih h2 hq'
      by_cases hm : m y = true
      · rw [List.filter_cons_of_pos hm]; simp only [List.map_cons, List.sum_cons, if_neg e, ih]; omega
      · rw [List.filter_cons_of_neg hm, ih]
def outR (m : Int → Bool) (w : Rw) : Int := if (m w.2.1 && !inb m w.2.2.1) = true then w.2.2.2 else 0
section
variable {cs : List Int} {gs : List Gp}
theorem wE_row (m : Int → Bool) (rt : Rt) (c : Int) (j : Nat) : wE m (rt, 0, c) = match rt with | some r => outR m (j, r.1, r.2, c) | none => 0 := by
  cases rt with
  | none => simp [wE, sg]
  | some r =>
    rw [wE_some]
    unfold outR wB
    cases h1 : inb m r.2 <;> cases h2 : m r.1 <;> simp [h1, h2]
theorem es0_sum (m : Int → Bool) : ∀ n, n ≤ gs.length → (((gs.take n).map fun g => ((routeOf cs gs g, 0, g.2) : Ed)).map (wE m)).sum = ((rowsTo cs gs n).map (outR m)).sum := by
  intro n
  induction n with
  | zero => intro _; rfl
  | succ n ih =>
    intro h
    have hg : gs[n]? = some gs[n] := List.getElem?_eq_getElem (by omega)
    rw [rowsTo_succ hg, take_snoc hg, List.map_append, List.map_append, List.map_append, List.sum_append, List.sum_append, ih (by omega)]
    congr 1
    simp only [List.map_cons, List.map_nil, List.sum_cons, List.sum_nil]
    rw [wE_row m _ _ n]
    unfold rowAt
    cases routeOf cs gs gs[n] <;> simp
theorem FS_rows (m : Int → Bool) : FS (nzP cs gs) (spOf cs gs) m (es0 cs gs) = spareS (nzP cs gs) (spOf cs gs) m + ((rowsTo cs gs gs.length).map (outR m)).sum := by
  unfold FS
  have := es0_sum (cs := cs) (gs := gs) m gs.length (Nat.le_refl _)
  rw [List.take_length] at this
  unfold es0
  rw [this]
/-- the rows but the one of group j -/
def rowsBut (cs : List Int) (gs : List Gp) (j : Nat) : List Rw := (rowsTo cs gs gs.length).filter fun w => !decide (w.1 = j)
theorem rows_lt {n : Nat} {w : Rw} (h : w ∈ rowsTo cs gs n) : ∃ (k : Nat) (g : Gp) (r : Int × Option Int), k < n ∧ gs[k]? = some g ∧ routeOf cs gs g = some r ∧ w = (k, r.1, r.2, g.2) := by
  unfold rowsTo at h
  obtain ⟨k, hk, e⟩ := List.mem_filterMap.mp h
  rw [List.mem_range] at hk
  cases hg : gs[k]? with
  | none => rw [hg] at e; cases e
  | some g =>
    rw [hg] at e
    simp only [Option.bind_some, rowAt] at e
    obtain ⟨r, hr, rfl⟩ := Option.map_eq_some_iff.mp e
    exact ⟨k, g, r, hk, hg, hr, rfl⟩
theorem rows_split {j : Nat} {g : Gp} {r : Int × Option Int} (hg : gs[j]? = some g) (hr : routeOf cs gs g = some r) (f : Rw → Int) : ∀ n, n ≤ gs.length →
    ((rowsTo cs gs n).map f).sum = (((rowsTo cs gs n).filter fun w => !decide (w.1 = j)).map f).sum + if j < n then f (j, r.1, r.2, g.2) else 0 := by
  intro n
  induction n with
  | zero => intro _; simp [rowsTo]
  | succ n ih =>
    intro h
    have hgn : gs[n]? = some gs[n] := List.getElem?_eq_getElem (by omega)
    rw [rowsTo_succ hgn, List.map_append, List.sum_append, List.filter_append, List.map_append, List.sum_append, ih (by omega)]
    by_cases e : n = j
    · subst e
      rw [hg] at hgn
      have e2 : gs[n] = g := (Option.some.inj hgn).symm
      rw [e2, if_neg (Nat.lt_irrefl _), if_pos (Nat.lt_succ_self _)]
      unfold rowAt
      rw [hr]
      simp
    · have : ((rowAt cs gs n gs[n]).toList.filter fun w => !decide (w.1 = j)) = (rowAt cs gs n gs[n]).toList := by
        unfold rowAt
        cases routeOf cs gs gs[n] with
        | none => rfl
        | some r' =>
          simp only [Option.map_some, Option.toList_some]
          rw [List.filter_cons_of_pos (by simp; omega)]; rfl
      rw [this]
      by_cases h1 : j < n
      · rw [if_pos h1, if_pos (by omega)]; omega
      · rw [if_neg h1, if_neg (by omega)]
        omega
/-- spare places once x of group j are moved -/
theorem FS_fix (ok : InsOk cs gs) {j : Nat} {g : Gp} {r : Int × Option Int} (hg : gs[j]? = some g) (hr : routeOf cs gs g = some r) (x : Int) (m : Int → Bool) :
    FS (nzP cs gs) (spOf cs gs) m ((es0 cs gs).set j (some r, x, x)) = (((nzP cs gs).filter m).map (fun p => spOf cs gs p + ((if r.1 = p then x else 0) - (if r.2 = some p then x else 0)))).sum + ((rowsBut cs gs j).map (outR m)).sum := by
  have hj := (List.getElem?_eq_some_iff.mp hg).1
  have he := es0_at (cs := cs) hg
  rw [F_set he, FS_rows, rows_split hg hr (outR m) gs.length (Nat.le_refl _), if_pos hj, hr, wE_row m (some r) g.2 j, sum_add, sum_sub]
  have hw := route_wf ok (List.mem_of_getElem? hg) hr
  have h1 : r.1 ∈ nzP cs gs := (rin_es0 ok _ (List.mem_of_getElem? he) r hr).1
  have h2 := (rin_es0 ok _ (List.mem_of_getElem? he) r hr).2
  rw [sum_ind (nz_nodup cs gs) m h1]
  have h3 : (((nzP cs gs).filter m).map (fun p => if r.2 = some p then x else 0)).sum = if inb m r.2 = true then x else 0 := by
    cases hy : r.2 with
    | none => simp [inb]; exact sum_zero fun p _ => rfl
    | some y =>
      have := sum_ind (x := x) (nz_nodup cs gs) m (h2 y hy)
      simp only [Option.some.injEq, inb]
      exact this
  rw [h3]
  have h4 : wE m (some r, x, x) = (if m r.1 = true then x else 0) - (if inb m r.2 = true then x else 0) := by
    rw [wE_some]; unfold wB
    cases inb m r.2 <;> cases m r.1 <;> simp
  rw [h4]
  unfold spareS rowsBut
  dsimp only
  omega
end
/-- a post of some kind is in the list -/
def inO (B : List Int) : Option Int → Bool
  | none => false
  | some y => B.contains y
def pairR (A B : List Int) (w : Rw) : Int := if (A.contains w.2.1 && !inO B w.2.2.1) = true then w.2.2.2 else 0
theorem sum_le {α : Type} {f g : α → Int} : ∀ {l : List α}, (∀ w ∈ l, f w ≤ g w) → (l.map f).sum ≤ (l.map g).sum
  | [], _ => by simp
  | w :: l, h => by
    have h1 := h w (List.mem_cons_self ..)
    have h2 := sum_le (l := l) fun w hw => h w (List.mem_cons_of_mem _ hw)
    simp only [List.map_cons, List.sum_cons]; omega
theorem subs_in {N s : List Int} (nd : N.Nodup) (h : s ∈ subsL N) : s.Nodup ∧ ∀ p ∈ s, p ∈ N := by
  have e := subs_is nd h
  rw [← e]
  exact ⟨nd.filter _, fun p hp => (List.mem_filter.mp hp).1⟩
structure PairH (N : List Int) (sp E Fr : Int → Int) (rows : List Rw) (cw rm : List Int) : Prop where
  nd : N.Nodup
  nz : ∀ p ∈ N, sp p ≠ 0
  e0 : ∀ p ∈ N, 0 < sp p → E p = 0
  f0 : ∀ p ∈ N, sp p < 0 → Fr p = 0
  en : ∀ p ∈ N, 0 ≤ E p
  fn : ∀ p ∈ N, 0 ≤ Fr p
  rw1 : ∀ w ∈ rows, sp w.2.1 < 0
  rw2 : ∀ w ∈ rows, ∀ y, w.2.2.1 = some y → 0 < sp y ∧ y ∈ N
  rc : ∀ w ∈ rows, 0 ≤ w.2.2.2
  cn : cw.Nodup
  cm : ∀ p, p ∈ cw ↔ p ∈ N ∧ 0 < E p
  rn : rm.Nodup
  rm : ∀ y, y ∈ rm ↔ ∃ w ∈ rows, w.2.2.1 = some y
theorem pair_cuts {N : List Int} {sp E Fr : Int → Int} {rows : List Rw} {cw rm : List Int} (h : PairH N sp E Fr rows cw rm) :
    (∀ m, 0 ≤ ((N.filter m).map (fun p => Fr p - E p)).sum + (rows.map (outR m)).sum) ↔ ∀ A ∈ subsL cw, ∀ B ∈ subsL rm, (A.map E).sum - (B.map Fr).sum ≤ (rows.map (pairR A B)).sum := by
  constructor
  · intro hF A hA B hB
    obtain ⟨nA, sA⟩ := subs_in h.cn hA
    obtain ⟨nB, sB⟩ := subs_in h.rn hB
    have hBN : ∀ y ∈ B, y ∈ N ∧ 0 < sp y := fun y hy => by
      obtain ⟨w, hw, e⟩ := (h.rm y).mp (sB y hy)
      exact ⟨(h.rw2 w hw y e).2, (h.rw2 w hw y e).1⟩
    have hAN : ∀ p ∈ A, p ∈ N ∧ 0 < E p := fun p hp => (h.cm p).mp (sA p hp)
    have := hF fun p => A.contains p || B.contains p
    rw [sum_sub] at this
    have h1 : (A.map E).sum ≤ ((N.filter fun p => A.contains p || B.contains p).map E).sum := sum_subset nA (fun p hp => List.mem_filter.mpr ⟨(hAN p hp).1, by simp [hp]⟩) fun p hp => h.en p (List.mem_filter.mp hp).1
    have h2 : ((N.filter fun p => A.contains p || B.contains p).map Fr).sum ≤ (B.map Fr).sum := by
      rw [sum_pos_part _ fun p hp => h.fn p (List.mem_filter.mp hp).1]
      refine sum_subset ((h.nd.filter _).filter _) (fun p hp => ?_) fun p hp => h.fn p (hBN p hp).1
      obtain ⟨hp1, hp2⟩ := List.mem_filter.mp hp
      obtain ⟨hp3, hp4⟩ := List.mem_filter.mp hp1
      have hp2 := of_decide_eq_true hp2
      simp only [Bool.or_eq_true, List.contains_iff_mem] at hp4
      rcases hp4 with h4 | h4
      · have hE := (hAN p h4).2
        have hz := h.nz p hp3
        by_cases hs : 0 < sp p
        · rw [h.e0 p hp3 hs] at hE; omega
        · rw [h.f0 p hp3 (by omega)] at hp2; omega
      · exact h4
    have h3 : (rows.map (outR fun p => A.contains p || B.contains p)).sum ≤ (rows.map (pairR A B)).sum := sum_le fun w hw => by
      unfold outR pairR
      have hc := h.rc w hw
      by_cases hp : ((A.contains w.2.1 || B.contains w.2.1) && !inb (fun p => A.contains p || B.contains p) w.2.2.1) = true
      · rw [if_pos hp]
        simp only [Bool.and_eq_true, Bool.or_eq_true, Bool.not_eq_true', List.contains_iff_mem] at hp
        have hA1 : w.2.1 ∈ A := by
          rcases hp.1 with h1 | h1
          · exact h1
          · have := (hBN _ h1).2; have := h.rw1 w hw; omega
        have hB1 : inO B w.2.2.1 = false := by
          cases hy : w.2.2.1 with
          | none => rfl
          | some y =>
            have := hp.2
            rw [hy] at this
            simp only [inb, Bool.or_eq_false_iff] at this
            exact this.2
        rw [if_pos (by rw [hB1]; simp [hA1])]
        exact Int.le_refl _
      · rw [if_neg hp]; split <;> omega
    omega
  · intro hP m
    have hA : cw.filter m ∈ subsL cw := subs_all m cw
    have hB : rm.filter m ∈ subsL rm := subs_all m rm
    have := hP _ hA _ hB
    rw [sum_sub]
    have h1 : ((N.filter m).map E).sum ≤ ((cw.filter m).map E).sum := by
      rw [sum_pos_part _ fun p hp => h.en p (List.mem_filter.mp hp).1]
      refine sum_subset ((h.nd.filter _).filter _) (fun p hp => ?_) fun p hp => by have := ((h.cm p).mp (List.mem_filter.mp hp).1).2; omega
      obtain ⟨hp1, hp2⟩ := List.mem_filter.mp hp
      obtain ⟨hp3, hp4⟩ := List.mem_filter.mp hp1
      exact List.mem_filter.mpr ⟨(h.cm p).mpr ⟨hp3, of_decide_eq_true hp2⟩, hp4⟩
    have h2 : ((rm.filter m).map Fr).sum ≤ ((N.filter m).map Fr).sum := sum_subset (h.rn.filter _) (fun y hy => by
      obtain ⟨h3, h4⟩ := List.mem_filter.mp hy
      obtain ⟨w, hw, e⟩ := (h.rm y).mp h3
      exact List.mem_filter.mpr ⟨(h.rw2 w hw y e).2, h4⟩) fun p hp => h.fn p (List.mem_filter.mp hp).1
    have h3 : (rows.map (pairR (cw.filter m) (rm.filter m))).sum ≤ (rows.map (outR m)).sum := sum_le fun w hw => by
      unfold outR pairR
      have hc := h.rc w hw
      by_cases hp : ((cw.filter m).contains w.2.1 && !inO (rm.filter m) w.2.2.1) = true
      · rw [if_pos hp]
        simp only [Bool.and_eq_true, Bool.not_eq_true', List.contains_iff_mem] at hp
        have hm1 := (List.mem_filter.mp hp.1).2
        have hm2 : inb m w.2.2.1 = false := by
          cases hy : w.2.2.1 with
          | none => rfl
          | some y =>
            have h5 := hp.2
            rw [hy] at h5
            simp only [inO] at h5
            show m y = false
            cases hmy : m y with
            | false => rfl
            | true =>
              have : (rm.filter m).contains y = true := List.contains_iff_mem.mpr (List.mem_filter.mpr ⟨(h.rm y).mpr ⟨w, hw, hy⟩, hmy⟩)
              rw [this] at h5; cases h5
        rw [if_pos (by rw [hm1, hm2]; rfl)]
        exact Int.le_refl _
      · rw [if_neg hp]; split <;> omega
    omega
end Pv

namespace Pv
open PySem PySem.Spec PyProof.Rows L2
/-! one group fixed, or none -/
abbrev Fx := Option (Nat × Gp × (Int × Option Int) × Int)
def FxOk (cs : List Int) (gs : List Gp) : Fx → Prop
  | none => True
  | some (j, g, r, _) => gs[j]? = some g ∧ routeOf cs gs g = some r
def mvF : Fx → Int → Int
  | none, _ => 0
  | some (_, _, r, x), p => if r.1 = p then x else 0
def tkF : Fx → Int → Int
  | none, _ => 0
  | some (_, _, r, x), p => if r.2 = some p then x else 0
def exF (cs : List Int) (gs : List Gp) (fx : Fx) (p : Int) : Int := mx (- spOf cs gs p) - mvF fx p
def frF (cs : List Int) (gs : List Gp) (fx : Fx) (p : Int) : Int := mx (spOf cs gs p) - tkF fx p
def rowsF (cs : List Int) (gs : List Gp) : Fx → List Rw
  | none => rowsTo cs gs gs.length
  | some (j, _) => rowsBut cs gs j
def esF (cs : List Int) (gs : List Gp) : Fx → List Ed
  | none => es0 cs gs
  | some (j, _, r, x) => (es0 cs gs).set j (some r, x, x)
theorem mx_sub (s : Int) : mx s - mx (-s) = s := by unfold mx; split <;> split <;> omega
section
variable {cs : List Int} {gs : List Gp} {fx : Fx}
theorem FS_fx (ok : InsOk cs gs) (hf : FxOk cs gs fx) (m : Int → Bool) : FS (nzP cs gs) (spOf cs gs) m (esF cs gs fx) = (((nzP cs gs).filter m).map (fun p => frF cs gs fx p - exF cs gs fx p)).sum + ((rowsF cs gs fx).map (outR m)).sum := by
  have e : ∀ p, frF cs gs fx p - exF cs gs fx p = spOf cs gs p + (mvF fx p - tkF fx p) := fun p => by
    unfold frF exF; have := mx_sub (spOf cs gs p); omega
  have e2 : (((nzP cs gs).filter m).map (fun p => frF cs gs fx p - exF cs gs fx p)) = ((nzP cs gs).filter m).map (fun p => spOf cs gs p + (mvF fx p - tkF fx p)) := List.map_congr_left fun p _ => e p
  rw [e2]
  match fx, hf with
  | none, _ =>
    show FS _ _ m (es0 cs gs) = _
    rw [FS_rows]
    unfold spareS
    congr 1
    congr 1
    exact List.map_congr_left fun p _ => by simp [mvF, tkF]
  | some (j, g, r, x), hf => exact FS_fix ok hf.1 hf.2 x m
theorem fx_crowd (ok : InsOk cs gs) (hf : FxOk cs gs fx) {p : Int} (h : ¬ spOf cs gs p < 0) : mvF fx p = 0 := by
  match fx, hf with
  | none, _ => rfl
  | some (j, g, r, x), hf =>
    have := (cro_mem.mp (route_wf ok (List.mem_of_getElem? hf.1) hf.2).1).2
    show (if r.1 = p then x else 0) = 0
    exact if_neg fun (z : r.1 = p) => h (by rw [← z]; exact this)
theorem fx_free (ok : InsOk cs gs) (hf : FxOk cs gs fx) {p : Int} (h : ¬ 0 < spOf cs gs p) : tkF fx p = 0 := by
  match fx, hf with
  | none, _ => rfl
  | some (j, g, r, x), hf =>
    show (if r.2 = some p then x else 0) = 0
    exact if_neg fun z => h ((route_wf ok (List.mem_of_getElem? hf.1) hf.2).2 p z).1
theorem lP0 (p : Int) : ((es0 cs gs).map (lP p)).sum = 0 := sum_zero fun e he => by
  obtain ⟨g, _, rfl⟩ := List.mem_map.mp he
  unfold lP
  cases routeOf cs gs g <;> simp
theorem PS_fx (hf : FxOk cs gs fx) (p : Int) : PS (spOf cs gs) p (esF cs gs fx) = - spOf cs gs p - mvF fx p := by
  match fx, hf with
  | none, _ => show PS _ p (es0 cs gs) = _; unfold PS mvF; rw [lP0]
  | some (j, g, r, x), hf =>
    show PS _ p ((es0 cs gs).set j (some r, x, x)) = _
    rw [P_set (es0_at hf.1), hf.2]
    unfold PS mvF lP
    have := lP0 (cs := cs) (gs := gs) p
    unfold lP at this
    rw [this]
    dsimp only
    split <;> omega
theorem ZS_fx (hf : FxOk cs gs fx) : ZS (esF cs gs fx) = 0 := by
  have h0 : ZS (es0 cs gs) = 0 := by
    unfold ZS
    rw [sum_zero fun e he => ?_]
    · rfl
    · obtain ⟨g, _, rfl⟩ := List.mem_map.mp he
      unfold lZ
      cases routeOf cs gs g <;> simp
  match fx, hf with
  | none, _ => exact h0
  | some (j, g, r, x), hf =>
    show ZS ((es0 cs gs).set j (some r, x, x)) = _
    rw [Z_set (es0_at hf.1), h0, hf.2]
    simp [lZ]
theorem rowsF_in {w : Rw} (h : w ∈ rowsF cs gs fx) : ∃ (k : Nat) (g : Gp) (r : Int × Option Int), gs[k]? = some g ∧ routeOf cs gs g = some r ∧ w = (k, r.1, r.2, g.2) := by
  have : w ∈ rowsTo cs gs gs.length := by
    match fx, h with
    | none, h => exact h
    | some (j, _), h => exact (List.mem_filter.mp h).1
  obtain ⟨k, g, r, _, h1, h2, h3⟩ := rows_lt this
  exact ⟨k, g, r, h1, h2, h3⟩
theorem feas_fx (ok : InsOk cs gs) (hf : FxOk cs gs fx) : FeasI cs gs (esF cs gs fx) ↔ (∀ p ∈ nzP cs gs, 0 ≤ exF cs gs fx p ∧ 0 ≤ frF cs gs fx p) ∧ ∀ m, 0 ≤ (((nzP cs gs).filter m).map (fun p => frF cs gs fx p - exF cs gs fx p)).sum + ((rowsF cs gs fx).map (outR m)).sum := by
  constructor
  · intro Fe
    have hs : ∀ m, 0 ≤ (((nzP cs gs).filter m).map (fun p => frF cs gs fx p - exF cs gs fx p)).sum + ((rowsF cs gs fx).map (outR m)).sum := fun m => by rw [← FS_fx ok hf]; exact Fe.set m
    refine ⟨fun p hp => ?_, hs⟩
    have hz := (nz_mem.mp hp)
    by_cases hc : spOf cs gs p < 0
    · have h1 := Fe.st p (cro_mem.mpr ⟨hz.1, hc⟩)
      rw [PS_fx hf] at h1
      have h2 := fx_free ok hf (p := p) (by omega)
      unfold exF frF
      rw [h2]
      unfold mx
      rw [if_pos (by omega), if_neg (by omega)]
      omega
    · have h0 : 0 < spOf cs gs p := by have := hz.2; omega
      have h1 := fx_crowd ok hf hc
      have h2 := hs fun q => decide (q = p)
      have h3 : ((nzP cs gs).filter fun q => decide (q = p)).map (fun p => frF cs gs fx p - exF cs gs fx p) = [frF cs gs fx p - exF cs gs fx p] := by
        have : (nzP cs gs).filter (fun q => decide (q = p)) = [p] := by
          have nd := nz_nodup cs gs
          generalize nzP cs gs = N at nd hp
          induction N with
          | nil => simp at hp
          | cons y N ih =>
            obtain ⟨n1, n2⟩ := List.nodup_cons.mp nd
            by_cases e : y = p
            · subst e
              rw [List.filter_cons_of_pos (by simp)]
              congr 1
              rw [List.filter_eq_nil_iff]
              intro z hz hz'
              exact n1 ((of_decide_eq_true hz') ▸ hz)
            · rw [List.filter_cons_of_neg (by simpa using e)]
              rcases List.mem_cons.mp hp with h | h
              · exact absurd h.symm e
              · exact ih n2 h
        rw [this]; rfl
      have h4 : ((rowsF cs gs fx).map (outR fun q => decide (q = p))).sum = 0 := sum_zero fun w hw => by
        obtain ⟨k, g, r, hg, hr, rfl⟩ := rowsF_in hw
        have := (cro_mem.mp (route_wf ok (List.mem_of_getElem? hg) hr).1).2
        unfold outR
        have hne : r.1 ≠ p := fun z => by rw [z] at this; exact hc this
        simp [hne]
      rw [h3, h4] at h2
      simp only [List.sum_cons, List.sum_nil] at h2
      have h5 : exF cs gs fx p = 0 := by unfold exF mx; rw [h1, if_neg (by omega)]; omega
      omega
  · rintro ⟨hn, hs⟩
    refine ⟨fun m => by rw [FS_fx ok hf]; exact hs m, fun p hp => ?_, by rw [ZS_fx hf]; omega⟩
    have hc := cro_mem.mp hp
    have := (hn p (nz_mem.mpr ⟨hc.1, by omega⟩)).1
    rw [PS_fx hf]
    unfold exF mx at this
    rw [if_pos (by omega)] at this
    omega
theorem pairH_fx (ok : InsOk cs gs) (hf : FxOk cs gs fx) (hn : ∀ p ∈ nzP cs gs, 0 ≤ exF cs gs fx p ∧ 0 ≤ frF cs gs fx p) {cw rm : List Int} (cn : cw.Nodup) (cm : ∀ p, p ∈ cw ↔ p ∈ nzP cs gs ∧ 0 < exF cs gs fx p) (rn : rm.Nodup) (rmm : ∀ y, y ∈ rm ↔ ∃ w ∈ rowsF cs gs fx, w.2.2.1 = some y) :
    PairH (nzP cs gs) (spOf cs gs) (exF cs gs fx) (frF cs gs fx) (rowsF cs gs fx) cw rm := by
  refine ⟨nz_nodup cs gs, fun p hp => (nz_mem.mp hp).2, fun p hp h => ?_, fun p hp h => ?_, fun p hp => (hn p hp).1, fun p hp => (hn p hp).2, fun w hw => ?_, fun w hw y hy => ?_, fun w hw => ?_, cn, cm, rn, rmm⟩
  · unfold exF mx; rw [fx_crowd ok hf (by omega), if_neg (by omega)]; omega
  · unfold frF mx; rw [fx_free ok hf (by omega), if_neg (by omega)]; omega
  · obtain ⟨k, g, r, hg, hr, rfl⟩ := rowsF_in hw
    exact (cro_mem.mp (route_wf ok (List.mem_of_getElem? hg) hr).1).2
  · obtain ⟨k, g, r, hg, hr, rfl⟩ := rowsF_in hw
    have := (route_wf ok (List.mem_of_getElem? hg) hr).2 y hy
    exact ⟨this.1, nz_mem.mpr ⟨this.2, by omega⟩⟩
  · obtain ⟨k, g, r, hg, hr, rfl⟩ := rowsF_in hw
    have := (ok.gp g (List.mem_of_getElem? hg)).2.2.1
    show 0 ≤ g.2
    omega
end
theorem rows_inc (cs : List Int) (gs : List Gp) : ∀ n, n ≤ gs.length → (rowsTo cs gs n).Pairwise (fun a b => a.1 < b.1) := by
  intro n
  induction n with
  | zero => intro _; exact List.Pairwise.nil
  | succ n ih =>
    intro h
    have hg : gs[n]? = some gs[n] := List.getElem?_eq_getElem (by omega)
    rw [rowsTo_succ hg, List.pairwise_append]
    refine ⟨ih (by omega), ?_, fun a ha b hb => ?_⟩
    · cases rowAt cs gs n gs[n] with
      | none => exact List.Pairwise.nil
      | some w => exact List.pairwise_singleton _ _
    · obtain ⟨k, g, r, hk, _, _, rfl⟩ := rows_lt ha
      unfold rowAt at hb
      cases hr : routeOf cs gs gs[n] with
      | none => rw [hr] at hb; simp at hb
      | some r' =>
        rw [hr] at hb
        simp at hb
        subst hb
        exact hk
/-- the lists of excesses and of free places once the fixed group has gone -/
def exL (cs : List Int) (gs : List Gp) : Fx → List Int
  | none => rExc cs gs
  | some (_, _, r, x) => (rExc cs gs).set r.1.toNat ((rExc cs gs).getD r.1.toNat 0 - x)
def frL (cs : List Int) (gs : List Gp) : Fx → List Int
  | none => rFre cs gs
  | some (_, _, r, x) => match r.2 with | none => rFre cs gs | some y => (rFre cs gs).set y.toNat ((rFre cs gs).getD y.toNat 0 - x)
section
variable {cs : List Int} {gs : List Gp} {fx : Fx}
theorem exL_len : (exL cs gs fx).length = cs.length := by
  match fx with
  | none => exact rExc_len ..
  | some (_, _, r, x) => show (List.set _ _ _).length = _; rw [List.length_set]; exact rExc_len ..
theorem frL_len : (frL cs gs fx).length = cs.length := by
  match fx with
  | none => exact rFre_len ..
  | some (_, _, r, x) =>
    show (match r.2 with | none => rFre cs gs | some y => (rFre cs gs).set y.toNat ((rFre cs gs).getD y.toNat 0 - x)).length = _
    cases r.2 with
    | none => exact rFre_len ..
    | some y => rw [List.length_set]; exact rFre_len ..
theorem exL_at (ok : InsOk cs gs) (hf : FxOk cs gs fx) {p : Nat} (hp : p < cs.length) : (exL cs gs fx).getD p 0 = exF cs gs fx p := by
  have h0 : (rExc cs gs).getD p 0 = mx (- spOf cs gs p) := by
    rw [List.getD_eq_getElem?_getD, List.getElem?_eq_getElem (by rw [rExc_len]; exact hp)]; exact (exc_get hp).1
  match fx, hf with
  | none, _ => show (rExc cs gs).getD p 0 = mx _ - 0; rw [h0]; omega
  | some (j, g, r, x), hf =>
    have hc := cro_mem.mp (route_wf ok (List.mem_of_getElem? hf.1) hf.2).1
    show ((rExc cs gs).set r.1.toNat ((rExc cs gs).getD r.1.toNat 0 - x)).getD p 0 = mx _ - (if r.1 = (p : Int) then x else 0)
    rw [List.getD_eq_getElem?_getD, List.getElem?_set, rExc_len]
    by_cases e : r.1 = (p : Int)
    · rw [if_pos (by omega), if_pos (by omega), if_pos e, show r.1.toNat = p by omega, h0]; rfl
    · rw [if_neg (by omega), if_neg e, ← List.getD_eq_getElem?_getD, h0]; omega
theorem frL_at (ok : InsOk cs gs) (hf : FxOk cs gs fx) {p : Nat} (hp : p < cs.length) : (frL cs gs fx).getD p 0 = frF cs gs fx p := by
  have h0 : (rFre cs gs).getD p 0 = mx (spOf cs gs p) := by
    rw [List.getD_eq_getElem?_getD, List.getElem?_eq_getElem (by rw [rFre_len]; exact hp)]; exact (exc_get hp).2
  match fx, hf with
  | none, _ => show (rFre cs gs).getD p 0 = mx _ - 0; rw [h0]; omega
  | some (j, g, r, x), hf =>
    have hw := (route_wf ok (List.mem_of_getElem? hf.1) hf.2).2
    show (match r.2 with | none => rFre cs gs | some y => (rFre cs gs).set y.toNat ((rFre cs gs).getD y.toNat 0 - x)).getD p 0 = mx _ - (if r.2 = some (p : Int) then x else 0)
    cases hy : r.2 with
    | none => rw [if_neg (by simp)]; show (rFre cs gs).getD p 0 = _; rw [h0]; omega
    | some y =>
      have hy2 := (hw y hy).2
      show ((rFre cs gs).set y.toNat ((rFre cs gs).getD y.toNat 0 - x)).getD p 0 = _
      rw [List.getD_eq_getElem?_getD, List.getElem?_set, rFre_len]
      by_cases e : y = (p : Int)
      · rw [if_pos (by omega), if_pos (by omega), if_pos (by rw [e]), show y.toNat = p by omega, h0]; rfl
      · rw [if_neg (by omega), if_neg (by simpa using e), ← List.getD_eq_getElem?_getD, h0]; omega
end
def dkF : Fx → List (Key × V)
  | none => []
  | some (j, _, _, x) => [(.inl (j : Int), .int x)]
def hitF : Fx → Nat → Bool
  | none, _ => false
  | some (j, _), k => decide (k = j)
theorem dk_at {fx : Fx} {k : Nat} : (valV (dkF fx) (.inl (k : Int))).isSome = hitF fx k := by
  match fx with
  | none => rfl
  | some (j, g, r, x) =>
    by_cases e : k = j
    · subst e; simp [dkF, valV, hitF]
    · have : ¬ ((j : Int) = (k : Int)) := by omega
      simp [dkF, valV, hitF, e, this]
end Pv

namespace Pv
open PySem PySem.Spec PyProof.Rows L2
/-! all vectors, in their order -/
def ivl (xs : List Int) (a : Int) (n : Nat) : List (List Int) := (List.range n).map fun (i : Nat) => xs ++ [a + (i : Nat)]
theorem ivl_succ (xs : List Int) (a : Int) (n : Nat) : ivl xs a (n + 1) = ivl xs a n ++ [xs ++ [a + (n : Nat)]] := by unfold ivl; rw [List.range_succ, List.map_append]; rfl
theorem ivl_len (xs : List Int) (a : Int) (n : Nat) : (ivl xs a n).length = n := by unfold ivl; rw [List.length_map, List.length_range]
def ExtsOf (cs : List Int) (gs : List Gp) (xs : List Int) (l : List (List Int)) : Prop := ∃ (a : Int) (n : Nat), 0 < n ∧ l = ivl xs a n ∧ ∀ x, Good cs gs (xs ++ [x]) ↔ a ≤ x ∧ x < a + (n : Nat)
inductive NextL (cs : List Int) (gs : List Gp) : List (List Int) → List (List Int) → Prop
  | nil : NextL cs gs [] []
  | snoc {bs l xs m} : NextL cs gs bs l → ExtsOf cs gs xs m → NextL cs gs (bs ++ [xs]) (l ++ m)
inductive LexTo (cs : List Int) (gs : List Gp) : Nat → List (List Int) → Prop
  | zero : LexTo cs gs 0 [[]]
  | succ {k l l'} : LexTo cs gs k l → NextL cs gs l l' → LexTo cs gs (k + 1) l'
theorem max_ex : ∀ {l : List Int}, l ≠ [] → ∃ a, IsMax a l
  | [], h => absurd rfl h
  | [x], _ => ⟨x, by simp, fun y hy => by simp at hy; omega⟩
  | x :: y :: l, _ => by
    obtain ⟨a, h1, h2⟩ := max_ex (l := y :: l) (by simp)
    by_cases h : a ≤ x
    · exact ⟨x, by simp, fun z hz => by
        rcases List.mem_cons.mp hz with rfl | hz
        · exact Int.le_refl _
        · have := h2 z hz; omega⟩
    · exact ⟨a, List.mem_cons_of_mem _ h1, fun z hz => by
        rcases List.mem_cons.mp hz with rfl | hz
        · omega
        · exact h2 z hz⟩
theorem min_ex : ∀ {l : List Int}, l ≠ [] → ∃ a, IsMin a l
  | [], h => absurd rfl h
  | [x], _ => ⟨x, by simp, fun y hy => by simp at hy; omega⟩
  | x :: y :: l, _ => by
    obtain ⟨a, h1, h2⟩ := min_ex (l := y :: l) (by simp)
    by_cases h : x ≤ a
    · exact ⟨x, by simp, fun z hz => by
        rcases List.mem_cons.mp hz with rfl | hz
        · exact Int.le_refl _
        · have := h2 z hz; omega⟩
    · exact ⟨a, List.mem_cons_of_mem _ h1, fun z hz => by
        rcases List.mem_cons.mp hz with rfl | hz
        · omega
        · exact h2 z hz⟩
section
variable {cs : List Int} {gs : List Gp}
theorem exts_of {xs : List Int} {a b : Int} (ab : a ≤ b) (h : ∀ x, Good cs gs (xs ++ [x]) ↔ a ≤ x ∧ x ≤ b) : ExtsOf cs gs xs (ivl xs a (b + 1 - a).toNat) :=
  ⟨a, (b + 1 - a).toNat, by omega, rfl, fun x => by rw [h x]; omega⟩
theorem exts_ex (ok : InsOk cs gs) {xs : List Int} (G : Good cs gs xs) (hl : xs.length < gs.length) : ∃ m, ExtsOf cs gs xs m := by
  obtain ⟨a, ha⟩ := max_ex (l := 0 :: lows (slkP cs gs xs) (sgnP cs gs gs[xs.length]) gs[xs.length].2) (by simp)
  obtain ⟨b, hb⟩ := min_ex (l := gs[xs.length].2 :: highs (slkP cs gs xs) (sgnP cs gs gs[xs.length])) (by simp)
  obtain ⟨_, ab, _, h⟩ := range_good ok G (List.getElem?_eq_getElem hl) ha hb
  exact ⟨_, exts_of ab h⟩
theorem NextL.app {bs l cs' l' : List (List Int)} (h : NextL cs gs bs l) (h' : NextL cs gs cs' l') : NextL cs gs (bs ++ cs') (l ++ l') := by
  induction h' with
  | nil => simpa using h
  | snoc h1 h2 ih => rw [← List.append_assoc, ← List.append_assoc]; exact .snoc ih h2
theorem NextL.ex (ok : InsOk cs gs) {k : Nat} (hk : k < gs.length) : ∀ {bs : List (List Int)}, (∀ xs ∈ bs, xs.length = k ∧ Good cs gs xs) → ∃ l, NextL cs gs bs l
  | [], _ => ⟨[], .nil⟩
  | x :: bs, h => by
    obtain ⟨l, hl⟩ := NextL.ex ok hk (bs := bs) fun xs hx => h xs (List.mem_cons_of_mem _ hx)
    have hx := h x (List.mem_cons_self ..)
    obtain ⟨m, hm⟩ := exts_ex ok hx.2 (by omega)
    have := NextL.app (NextL.snoc .nil hm) hl
    exact ⟨_, this⟩
theorem exts_mem {xs y : List Int} {m : List (List Int)} (h : ExtsOf cs gs xs m) : y ∈ m ↔ ∃ x, y = xs ++ [x] ∧ Good cs gs y := by
  obtain ⟨a, n, hn, rfl, hx⟩ := h
  unfold ivl
  rw [List.mem_map]
  constructor
  · rintro ⟨i, hi, rfl⟩
    rw [List.mem_range] at hi
    exact ⟨_, rfl, (hx _).mpr (by omega)⟩
  · rintro ⟨x, rfl, hg⟩
    have := (hx x).mp hg
    refine ⟨(x - a).toNat, List.mem_range.mpr (by omega), ?_⟩
    rw [show a + ((x - a).toNat : Int) = x by omega]
theorem NextL.mem {bs l : List (List Int)} (h : NextL cs gs bs l) {y : List Int} : y ∈ l ↔ ∃ xs ∈ bs, ∃ x, y = xs ++ [x] ∧ Good cs gs y := by
  induction h with
  | nil => simp
  | snoc h1 h2 ih =>
    rw [List.mem_append, ih, exts_mem h2]
    constructor
    · rintro (⟨xs, h, r⟩ | r)
      · exact ⟨xs, List.mem_append_left _ h, r⟩
      · exact ⟨_, by simp, r⟩
    · rintro ⟨xs, h, r⟩
      rcases List.mem_append.mp h with h | h
      · exact .inl ⟨xs, h, r⟩
      · simp at h; subst h; exact .inr r
theorem NextL.len {bs l : List (List Int)} (h : NextL cs gs bs l) : bs.length ≤ l.length := by
  induction h with
  | nil => exact Nat.le_refl _
  | snoc h1 h2 ih =>
    obtain ⟨a, n, hn, rfl, _⟩ := h2
    rw [List.length_append, List.length_append, ivl_len]
    simp; omega
theorem ivl_sorted (xs : List Int) (a : Int) : ∀ n, (ivl xs a n).Pairwise ltL
  | 0 => by simp [ivl]
  | n + 1 => by
    rw [ivl_succ, List.pairwise_append]
    refine ⟨ivl_sorted xs a n, List.pairwise_singleton _ _, fun y hy z hz => ?_⟩
    simp at hz; subst hz
    unfold ivl at hy
    obtain ⟨i, hi, rfl⟩ := List.mem_map.mp hy
    rw [List.mem_range] at hi
    exact (ltL_snoc rfl).mpr (.inr ⟨rfl, by omega⟩)
theorem NextL.sorted {bs l : List (List Int)} (h : NextL cs gs bs l) {k : Nat} (hk : ∀ xs ∈ bs, xs.length = k) (hs : bs.Pairwise ltL) : l.Pairwise ltL := by
  induction h with
  | nil => exact List.Pairwise.nil
  | @snoc bs l xs m h1 h2 ih =>
    obtain ⟨p1, p2, p3⟩ := List.pairwise_append.mp hs
    rw [List.pairwise_append]
    refine ⟨ih (fun xs hx => hk xs (List.mem_append_left _ hx)) p1, ?_, fun y hy z hz => ?_⟩
    · obtain ⟨a, n, _, rfl, _⟩ := h2
      exact ivl_sorted _ _ _
    · obtain ⟨ys, hys, y1, rfl, _⟩ := h1.mem.mp hy
      obtain ⟨z1, rfl, _⟩ := (exts_mem h2).mp hz
      exact (ltL_snoc (by rw [hk ys (List.mem_append_left _ hys), hk xs (by simp)])).mpr (.inl (p3 ys hys xs (by simp)))
theorem LexTo.all (G0 : Good cs gs []) {k : Nat} {l : List (List Int)} (h : LexTo cs gs k l) : ∀ xs ∈ l, xs.length = k ∧ Good cs gs xs := by
  induction h with
  | zero => intro xs hx; simp at hx; subst hx; exact ⟨rfl, G0⟩
  | succ h1 h2 ih =>
    intro xs hx
    obtain ⟨ys, hy, x, rfl, g⟩ := h2.mem.mp hx
    exact ⟨by rw [List.length_append, (ih ys hy).1]; rfl, g⟩
theorem LexTo.mem {k : Nat} {l : List (List Int)} (h : LexTo cs gs k l) : ∀ {xs : List Int}, Good cs gs xs → xs.length = k → xs ∈ l := by
  induction h with
  | zero => intro xs _ hl; simp [List.length_eq_zero_iff.mp hl]
  | @succ k l l' h1 h2 ih =>
    intro xs g hl
    rw [h2.mem]
    have hne : xs ≠ [] := fun z => by rw [z] at hl; simp at hl
    have e := List.dropLast_concat_getLast hne
    have hd : xs.dropLast = xs.take k := by rw [List.dropLast_eq_take, hl]; rfl
    refine ⟨xs.dropLast, ih ?_ ?_, xs.getLast hne, e.symm, g⟩
    · rw [hd]; exact g.take k
    · rw [List.length_dropLast, hl]; rfl
theorem LexTo.sorted (G0 : Good cs gs []) {k : Nat} {l : List (List Int)} (h : LexTo cs gs k l) : l.Pairwise ltL := by
  induction h with
  | zero => exact List.pairwise_singleton _ _
  | succ h1 h2 ih => exact h2.sorted (fun xs hx => (h1.all G0 xs hx).1) ih
theorem LexTo.up (ok : InsOk cs gs) (G0 : Good cs gs []) {k : Nat} {l : List (List Int)} (h : LexTo cs gs k l) : ∀ {j : Nat}, k ≤ j → j ≤ gs.length → ∃ l', LexTo cs gs j l' ∧ l.length ≤ l'.length := by
  intro j
  induction j with
  | zero => intro hk _; have : k = 0 := by omega
            subst this; exact ⟨l, h, Nat.le_refl _⟩
  | succ j ih =>
    intro hk hj
    by_cases e : k = j + 1
    · subst e; exact ⟨l, h, Nat.le_refl _⟩
    · obtain ⟨l1, h1, h2⟩ := ih (by omega) (by omega)
      obtain ⟨l2, h3⟩ := NextL.ex ok (k := j) (by omega) (h1.all G0)
      exact ⟨l2, .succ h1 h3, Nat.le_trans h2 h3.len⟩
theorem LexTo.pos {k : Nat} {l : List (List Int)} (h : LexTo cs gs k l) : 0 < l.length := by
  induction h with
  | zero => simp
  | succ h1 h2 ih => exact Nat.lt_of_lt_of_le ih h2.len
end
end Pv

namespace Pv
open PySem PySem.Spec PyProof.Rows L2
/-! the groups in another order -/
theorem addAt_comm (ls : List Int) (p q x y : Int) : addAt (addAt ls p x) q y = addAt (addAt ls q y) p x := by
  unfold addAt
  by_cases e : p.toNat = q.toNat
  · rw [e]
    by_cases h : q.toNat < ls.length
    · simp [List.getD_eq_getElem?_getD, List.getElem?_set, h]; congr 1; omega
    · simp [List.set_eq_of_length_le (Nat.le_of_not_lt h)]
  · have e' : ¬ q.toNat = p.toNat := fun z => e z.symm
    simp only [List.getD_eq_getElem?_getD, List.getElem?_set, e, e', if_false]
    rw [List.set_comm _ _ e]
theorem dAdd_comm (ls : List Int) (g h : Gp) : dAdd (dAdd ls g) h = dAdd (dAdd ls h) g := by
  unfold dAdd
  cases g.1 with
  | nil => rfl
  | cons p _ => cases h.1 with
    | nil => rfl
    | cons q _ => exact addAt_comm ..
section
variable {cs : List Int} {gs gs' : List Gp}
theorem rDem_perm (h : gs'.Perm gs) : rDem cs gs' = rDem cs gs := h.foldl_eq' (fun x _ y _ z => dAdd_comm z x y) _
theorem spOf_perm (h : gs'.Perm gs) : spOf cs gs' = spOf cs gs := by funext p; unfold spOf; rw [rDem_perm h]
theorem nzP_perm (h : gs'.Perm gs) : nzP cs gs' = nzP cs gs := by unfold nzP; rw [spOf_perm h]
theorem rCro_perm (h : gs'.Perm gs) : rCro cs gs' = rCro cs gs := by unfold rCro rExc; rw [rDem_perm h]
theorem rCla_perm (h : gs'.Perm gs) : rCla cs gs' = rCla cs gs := by unfold rCla rFre; rw [rDem_perm h]
theorem route_perm (h : gs'.Perm gs) (g : Gp) : routeOf cs gs' g = routeOf cs gs g := by unfold routeOf; rw [rCro_perm h, rCla_perm h]
theorem es0_perm (h : gs'.Perm gs) : (es0 cs gs').Perm (es0 cs gs) := by
  have e : es0 cs gs' = gs'.map fun g => ((routeOf cs gs g, 0, g.2) : Ed) := by unfold es0; exact List.map_congr_left fun g _ => by rw [route_perm h]
  rw [e]; exact h.map _
theorem sum_perm {l l' : List Int} (h : l.Perm l') : l.sum = l'.sum := by
  induction h with
  | nil => rfl
  | cons x _ ih => rw [List.sum_cons, List.sum_cons, ih]
  | swap x y l => simp only [List.sum_cons]; omega
  | trans _ _ h1 h2 => rw [h1, h2]
theorem slk_perm {N : List Int} {sp : Int → Int} {C : List Int} {es es' : List Ed} (h : es'.Perm es) : slk N sp C es' = slk N sp C es := by
  unfold slk
  have hF : ∀ m, FS N sp m es' = FS N sp m es := fun m => by unfold FS; rw [sum_perm (h.map _)]
  have hP : ∀ p, PS sp p es' = PS sp p es := fun p => by unfold PS; rw [sum_perm (h.map _)]
  have hZ : ZS es' = ZS es := by unfold ZS; rw [sum_perm (h.map _)]
  rw [hZ]
  congr 2
  · exact List.map_congr_left fun p _ => hP p
  · exact List.map_congr_left fun s _ => hF _
theorem feas_perm (h : gs'.Perm gs) : FeasI cs gs' (es0 cs gs') ↔ FeasI cs gs (es0 cs gs) := by
  have hp := es0_perm (cs := cs) h
  unfold FeasI
  rw [nzP_perm h, spOf_perm h, rCro_perm h]
  have hF : ∀ m, FS (nzP cs gs) (spOf cs gs) m (es0 cs gs') = FS (nzP cs gs) (spOf cs gs) m (es0 cs gs) := fun m => by unfold FS; rw [sum_perm (hp.map _)]
  have hP : ∀ p, PS (spOf cs gs) p (es0 cs gs') = PS (spOf cs gs) p (es0 cs gs) := fun p => by unfold PS; rw [sum_perm (hp.map _)]
  have hZ : ZS (es0 cs gs') = ZS (es0 cs gs) := by unfold ZS; rw [sum_perm (hp.map _)]
  exact ⟨fun F => ⟨fun m => by rw [← hF]; exact F.set m, fun p hp => by rw [← hP]; exact F.st p hp, by rw [← hZ]; exact F.z⟩, fun F => ⟨fun m => by rw [hF]; exact F.set m, fun p hp => by rw [hP]; exact F.st p hp, by rw [hZ]; exact F.z⟩⟩
theorem ins_perm (h : gs'.Perm gs) (ok : InsOk cs gs) : InsOk cs gs' :=
  ⟨ok.c1, ok.c6, ok.cb, by rw [h.length_eq]; exact ok.g1, by rw [h.length_eq]; exact ok.g10, fun g hg => ok.gp g (h.mem_iff.mp hg)⟩
theorem max_one {l : List Int} {a b : Int} (ha : IsMax a l) (hb : IsMax b l) : a = b := Int.le_antisymm (hb.2 a ha.1) (ha.2 b hb.1)
/-- the number of the first group in the first, the last vector -/
theorem ext_head (ok : InsOk cs gs) (Fe : FeasI cs gs (es0 cs gs)) {g : Gp} (hg : gs[0]? = some g) {a b : Int} (ha : IsMax a (0 :: lows (slk (nzP cs gs) (spOf cs gs) (rCro cs gs) (es0 cs gs)) (sgn (nzP cs gs) (rCro cs gs) (routeOf cs gs g)) g.2))
    (hb : IsMin b (g.2 :: highs (slk (nzP cs gs) (spOf cs gs) (rCro cs gs) (es0 cs gs)) (sgn (nzP cs gs) (rCro cs gs) (routeOf cs gs g)))) {ys : List Int} : (ExtOf cs gs [] 0 ys → ys[0]? = some a) ∧ (ExtOf cs gs [] 1 ys → ys[0]? = some b) := by
  obtain ⟨⟨xa, va, ea⟩, ⟨xb, vb, eb⟩, hR, _⟩ := range_vec ok Fe hg ha hb
  have hgl := (List.getElem?_eq_some_iff.mp hg).1
  have key : ∀ {e : Int}, ExtOf cs gs [] e ys → ∃ y, ys[0]? = some y ∧ (a ≤ y ∧ y ≤ b) ∧ ∀ xs x, IsVec cs gs xs → xs[0]? = some x → if e = 0 then y ≤ x else x ≤ y := by
    intro e E
    have hl : 0 < ys.length := by rw [E.len]; exact hgl
    have hv : IsVec cs gs ys := (good_vec ok E.len).mp E.good
    refine ⟨ys[0], List.getElem?_eq_getElem hl, hR ys _ hv (List.getElem?_eq_getElem hl), fun xs x hx hx0 => ?_⟩
    have o := E.ord xs ((good_vec ok hx.1).mpr hx) hx.1 rfl
    unfold ordE at o
    match ys, xs, hl, hx0 with
    | y :: ys, x' :: xs, _, hx0 =>
      simp at hx0
      subst hx0
      split at o
      · rename_i h0
        rw [if_pos h0]
        rcases o with o | o
        · simp at o; show y ≤ x'; omega
        · rcases o with o | o <;> (show y ≤ x'; omega)
      · rename_i h0
        rw [if_neg h0]
        rcases o with o | o
        · simp at o; show x' ≤ y; omega
        · rcases o with o | o <;> (show x' ≤ y; omega)
  constructor
  · intro E
    obtain ⟨y, hy, h1, h2⟩ := key E
    have := h2 xa a va ea
    rw [if_pos rfl] at this
    rw [hy]; congr 1; omega
  · intro E
    obtain ⟨y, hy, h1, h2⟩ := key E
    have := h2 xb b vb eb
    rw [if_neg (by decide)] at this
    rw [hy]; congr 1; omega
/-- one group moved to the front -/
def front (gs : List Gp) (j : Nat) (g : Gp) : List Gp := [g] ++ gs.take j ++ gs.drop (j + 1)
theorem front_perm {j : Nat} {g : Gp} (hg : gs[j]? = some g) : (front gs j g).Perm gs := by
  have hj := (List.getElem?_eq_some_iff.mp hg).1
  have e : gs = gs.take j ++ g :: gs.drop (j + 1) := by
    have h1 := List.take_append_drop j gs
    rw [List.drop_eq_getElem_cons hj, (List.getElem?_eq_some_iff.mp hg).2] at h1
    exact h1.symm
  unfold front
  conv => rhs; rw [e]
  rw [List.append_assoc]
  show (g :: (gs.take j ++ gs.drop (j + 1))).Perm _
  exact List.perm_middle.symm
theorem front_ext (ok : InsOk cs gs) (Fe : FeasI cs gs (es0 cs gs)) {j : Nat} {g : Gp} (hg : gs[j]? = some g) {a b : Int} (ha : IsMax a (0 :: lows (slk (nzP cs gs) (spOf cs gs) (rCro cs gs) (es0 cs gs)) (sgn (nzP cs gs) (rCro cs gs) (routeOf cs gs g)) g.2))
    (hb : IsMin b (g.2 :: highs (slk (nzP cs gs) (spOf cs gs) (rCro cs gs) (es0 cs gs)) (sgn (nzP cs gs) (rCro cs gs) (routeOf cs gs g)))) :
    InsOk cs (front gs j g) ∧ FeasI cs (front gs j g) (es0 cs (front gs j g)) ∧ (∀ ys, ExtOf cs (front gs j g) [] 0 ys → ys[0]? = some a) ∧ ∀ ys, ExtOf cs (front gs j g) [] 1 ys → ys[0]? = some b := by
  have hp := front_perm hg
  have ok' := ins_perm hp ok
  have Fe' := (feas_perm (cs := cs) hp).mpr Fe
  have hg' : (front gs j g)[0]? = some g := rfl
  have E := @ext_head cs (front gs j g) ok' Fe' g hg' a b
  rw [nzP_perm hp, spOf_perm hp, rCro_perm hp, route_perm hp, slk_perm (es0_perm hp)] at E
  exact ⟨ok', Fe', fun ys h => (E ha hb).1 h, fun ys h => (E ha hb).2 h⟩
end
end Pv

/-! sorted(t), set(t), len(set(t)) of a tuple of ints -/
namespace PyProof.Rows
open PySem
section
variable {prog : Program} {w : World} {A : Around} {E : Value → Shared → Prop} {s : Shared}
theorem pv_collectTup {l : Addr} {vs : List Value} {Q : List Value → Shared → Prop} (hl : s.heap.IsTuple l vs.toArray) (hsz : vs.length ≤ sizeLine)
    (h : Q vs { s with heap := (s.heap.push (seqObj "list" #[] 0)).update s.heap.objs.size (Obj.mapSeq (· ++ vs.toArray)) }) : wpAny (model prog w) A (collect (.ref l)) Q E s := by
  obtain ⟨o, ho, hc, n, hd⟩ := id hl
  have ho1 : (s.heap.push (seqObj "list" #[] 0)).get? l = some o := Heap.get?_push_of_some _ ho
  have htt : (Value.type "tuple" == Value.type "tuple") = true := by rfl
  unfold collect; refine wpAny_bind (wpAny_runValue (codeAny_builtin entry_proto_collect' ?_))
  show wpAny _ _ (do again (.builtin "list.__iadd__" ⟨[← newList [], .ref l], []⟩)) _ _ _
  refine wpAny_bind (wpAny_newList (wpAny_pure ⟨Code.quiet_builtin _ (by decide +kernel), codeAny_builtin entry_list_iadd' ?body⟩))
  case body =>
    show wpAny _ _ (Builtin.List.listExtendWith (.ref s.heap.objs.size) (.ref l) (.ref s.heap.objs.size)) _ _ { s with heap := s.heap.push (seqObj "list" #[] 0), toks := s.toks }
    unfold Builtin.List.listExtendWith; refine wpAny_bind (wpAny_typeOf (T := "tuple") ⟨o, ho1, hc⟩ ?_)
    rw [if_pos (by rw [htt]; simp)]; refine wpAny_bind (listItems_at ho1 hd (wpAny_bind (listItems_at (xs := #[]) (n := 0) (Heap.get?_push_size _ rfl) rfl ?_)))
    rw [if_neg (by simp)]; refine wpAny_bind (listUpdate_at (xs := #[]) (n := 0) (Heap.get?_push_size _ rfl) rfl (wpAny_pure ?_) (Nat.zero_le _) (by show (#[] ++ vs.toArray).size ≤ sizeLine + 1; simp only [Array.size_append, List.size_toArray, List.length_nil]; omega))
    show wpAny (model prog w) A (do match (← load s.heap.objs.size).data with | .seq xs _ => pure xs.toList | _ => unsupported "internal:collect") Q E { s with heap := (s.heap.push (seqObj "list" #[] 0)).update s.heap.objs.size (Obj.mapSeq (· ++ vs.toArray)), toks := s.toks }
    refine wpAny_bind (wpAny_load (get?_update_seq (Heap.get?_push_size _ rfl) _) ?_)
    show wpAny _ _ (pure ((#[] : Array Value) ++ vs.toArray).toList) Q E { s with heap := _ }
    rw [show ((#[] : Array Value) ++ vs.toArray).toList = vs by simp]; exact wpAny_pure h
theorem pv_sortedTup {l : Addr} {vs : List Value} {ns : List Int} {Q : Value → Shared → Prop} (hl : s.heap.IsTuple l vs.toArray) (hI : IntsAre vs ns) (h64 : vs.length < 64)
    (h : ∀ (out : Array Value) (ns' : List Int), IntsAre out.toList ns' → ns'.Perm ns → ns'.Pairwise (· ≤ ·) → Q (.ref (s.heap.objs.size + 1)) { s with heap := sortedAll s.heap vs out }) :
    wpAny (model prog w) A (call (.builtin "sorted") [.ref l]) Q E s := by
  refine Calls.call_function_entry kind_sorted plain_sorted entry_sorted (args_sorted1 _) ?tree
  case tree =>
    unfold Builtin.«sorted»; refine wpAny_bind (m := checkCount "sorted" 1 1 _) (wpAny_pure (wpAny_bind (pv_collectTup hl (by rw [sizeLine_eq]; omega) (wpAny_bind (wpAny_newList ?new (by rw [sizeLine_eq]; omega))))))
    case new =>
      have e1 : ((s.heap.push (seqObj "list" #[] 0)).update s.heap.objs.size (Obj.mapSeq (· ++ vs.toArray))).objs.size = s.heap.objs.size + 1 := by rw [Heap.size_update, size_push']
      have e2 : (((s.heap.push (seqObj "list" #[] 0)).update s.heap.objs.size (Obj.mapSeq (· ++ vs.toArray))).push (seqObj "list" vs.toArray 0)).get? (s.heap.objs.size + 1) = some (seqObj "list" vs.toArray 0) := by rw [← e1]; exact Heap.get?_push_size _ rfl
      show wpAny _ _ _ _ _ { s with heap := ((s.heap.push (seqObj "list" #[] 0)).update s.heap.objs.size (Obj.mapSeq (· ++ vs.toArray))).push (seqObj "list" vs.toArray 0), toks := s.toks }
      rw [e1]; exact wpAny_bind (wpAny_holding (wpAny_call_entry slot_list_sort ⟨_, e2, rfl⟩ entry_list_sort (list_sort_tree e2 hI h64 fun out ns' a1 a2 a3 => ⟨_, rfl, wpAny_pure ⟨_, rfl, h out ns' a1 a2 a3⟩⟩) (args_list_sort _)))
end
end PyProof.Rows
namespace Pv
open PySem PySem.Spec PyProof.Rows L2
section
variable {X : Cx}
def rSortedT (K : PySem.W.Frag) : RC := fun vs H Q => ∃ (a : Addr) (ns : List Int), vs = [V.ref a] ∧ SqT K H a (ns.map V.int) ∧ ns.length < 64 ∧
  ∀ (ns' : List Int) (p : Addr), ns'.Perm ns → ns'.Pairwise (· ≤ ·) → H p = none → Q (.ref p) (upd H p (.lst (ns'.map V.int)))
theorem cr_sortedT : CallR X (.builtin "sorted") (rSortedT X.K) := by
  intro pins s σ H vs us Q I rel h
  obtain ⟨a, ns, e, hs, h64, q⟩ := h
  subst e
  obtain ⟨its, rv, ht, hz⟩ := I.tuple hs
  rw [Vals.ref1 rel]
  have hi := rv.ints
  refine pv_sortedTup (show s.heap.IsTuple a its.toArray from ht) hi (by rw [hi.length]; exact h64) ?_
  intro out ns' h1 h2 h3
  obtain ⟨ep, he⟩ := PyProof.Rows.sortedAll_at s.heap its out
  have hlen : (ns'.map V.int).length ≤ sizeLine := by rw [List.length_map, h2.length_eq, sizeLine_eq]; omega
  exact ⟨.ref _, _, I.laid (a := s.heap.objs.size + 1) (o := .lst (ns'.map V.int)) (t' := s.toks) (fun _ _ => PyProof.Rows.sortedAll_old) (Nat.le_succ _) ⟨hlen, out.toList, ep, vals_of_ints h1, he⟩, rfl, q ns' _ h2 h3 (I.hok.fresh (Nat.le_succ _))⟩
def rSetT (w : World) (K : PySem.W.Frag) : RC := fun vs H Q => ∃ (a : Addr) (ns : List Int), vs = [V.ref a] ∧ SqT K H a (ns.map V.int) ∧ ns.length < 60 ∧
  ∀ (p : Addr) (c : Nat), H p = none → (∃ ks : List Int, ks.Nodup ∧ (∀ k, k ∈ ks ↔ k ∈ ns) ∧ ks.length = c) → c ≤ ns.length → Q (.ref p) (upd H p (SetO w p (fun j => decide (j ∈ ns)) c))
theorem cr_setT (hc : X.calm = true) : CallR X (.type "set") (rSetT X.w X.K) := by
  intro pins s σ H vs us Q I rel h
  obtain ⟨a, ns, e, hs, h60, q⟩ := h
  subst e
  obtain ⟨its, rv, ht, hz⟩ := I.tuple hs
  rw [Vals.ref1 rel]
  have hi := rv.ints
  have hsb : scanBound > 61 := by decide
  refine call_set_tupI ns (I.ok.hd hc) (show s.heap.IsTuple a its.toArray from ht) (by simpa using hi) (by omega) ?_
  intro h' tk c R hcn kp
  refine ⟨.ref s.heap.objs.size, _, I.laid (a := s.heap.objs.size) (o := SetO X.w s.heap.objs.size (fun j => decide (j ∈ ns)) c) (t' := tk) kp (Nat.le_refl _) (setO_new R), rfl, q _ c (I.hok.fresh (Nat.le_refl _)) ?_ hcn⟩
  obtain ⟨o, es, ep, t, _, _, _, _, nd, hm, _, _, hn, _⟩ := R
  exact ⟨es.toList.map keyOf, nd, fun k => by rw [← hm k]; simp, by rw [List.length_map, Array.length_toList]; exact hn⟩
def rLenS' (w : World) : RC := fun vs H Q => ∃ (a : Addr) (S : Int → Bool) (n : Nat), vs = [V.ref a] ∧ H a = some (SetO w a S n) ∧ Q (.int n) H
theorem cr_lenSet : CallR X (.builtin "len") (rLenS' X.w) := by
  intro pins s σ H vs us Q I rel h
  obtain ⟨a, S, n, e, ha, q⟩ := h
  subst e
  rw [Vals.ref1 rel]
  obtain ⟨o, es, ep, t, ho, hx, hd, _, _, _, hb, hf, hn, _⟩ := setO_get I ha
  subst hn
  have hsb : scanBound < 2 ^ 62 := by decide
  exact call_len_set ho hx hd hf (by omega) ⟨.int _, H, I.tok _, ⟨_, rfl⟩, q⟩
end
/-! what the size of the set tells -/
theorem len_sub : ∀ {ks ns : List Int}, ks.Nodup → (∀ k ∈ ks, k ∈ ns) → ks.length ≤ ns.length
  | [], _, _, _ => Nat.zero_le _
  | k :: ks, ns, nd, h => by
    obtain ⟨n1, n2⟩ := List.nodup_cons.mp nd
    have hk := h k (by simp)
    have h1 := len_sub (ks := ks) (ns := ns.erase k) n2 (fun x hx => by
      have hne : x ≠ k := fun z => n1 (by rw [← z]; exact hx)
      exact (List.mem_erase_of_ne hne).mpr (h x (by simp [hx])))
    rw [List.length_erase_of_mem hk] at h1
    have := List.length_pos_of_mem hk
    rw [List.length_cons]; omega
theorem len_nodup : ∀ {ns ks : List Int}, ks.Nodup → (∀ k, k ∈ ks ↔ k ∈ ns) → (ks.length = ns.length ↔ ns.Nodup) := by
  intro ns ks nd hm
  constructor
  · intro hl
    induction ns generalizing ks with
    | nil => exact List.nodup_nil
    | cons n ns ih =>
      have hn : n ∈ ks := (hm n).mpr (by simp)
      have hnot : n ∉ ns := by
        intro hin
        have := len_sub nd (ns := ns) (fun k hk => by
          rcases List.mem_cons.mp ((hm k).mp hk) with rfl | h
          · exact hin
          · exact h)
        rw [List.length_cons] at hl; omega
      refine List.nodup_cons.mpr ⟨hnot, ih (ks := ks.erase n) (nd.erase n) (fun k => ?_) ?_⟩
      · rw [nd.mem_erase_iff, hm k, List.mem_cons]
        constructor
        · rintro ⟨h1, h2 | h2⟩
          · exact absurd h2 h1
          · exact h2
        · intro h
          exact ⟨fun z => hnot (z ▸ h), .inr h⟩
      · rw [List.length_erase_of_mem hn, hl, List.length_cons]; rfl
  · intro hn
    exact Nat.le_antisymm (len_sub nd fun k hk => (hm k).mp hk) (len_sub hn fun k hk => (hm k).mpr hk)
theorem lt_unique : ∀ {as bs : List Int}, as.Pairwise (· < ·) → bs.Pairwise (· < ·) → (∀ k, k ∈ as ↔ k ∈ bs) → as = bs
  | [], [], _, _, _ => rfl
  | [], b :: bs, _, _, h => by have := (h b).mpr (by simp); cases this
  | a :: as, [], _, _, h => by have := (h a).mp (by simp); cases this
  | a :: as, b :: bs, ha, hb, h => by
    obtain ⟨a1, a2⟩ := List.pairwise_cons.mp ha
    obtain ⟨b1, b2⟩ := List.pairwise_cons.mp hb
    have e : a = b := by
      rcases List.mem_cons.mp ((h a).mp (by simp)) with h1 | h1
      · exact h1
      · rcases List.mem_cons.mp ((h b).mpr (by simp)) with h2 | h2
        · exact h2.symm
        · have := b1 a h1; have := a1 b h2; omega
    subst e
    rw [lt_unique a2 b2 (fun k => ?_)]
    constructor
    · intro hk
      rcases List.mem_cons.mp ((h k).mp (List.mem_cons_of_mem _ hk)) with h1 | h1
      · have := a1 k hk; omega
      · exact h1
    · intro hk
      rcases List.mem_cons.mp ((h k).mpr (List.mem_cons_of_mem _ hk)) with h1 | h1
      · have := b1 k hk; omega
      · exact h1
theorem sort_nodup {ns ns' ms : List Int} (hp : ns'.Perm ns) (hs : ns'.Pairwise (· ≤ ·)) (hm : ms.Pairwise (· < ·)) (h : ∀ k, k ∈ ms ↔ k ∈ ns) : ns' = ms ↔ ns.Nodup := by
  constructor
  · intro e
    subst e
    exact hp.nodup_iff.mp (hm.imp fun {a b} h => by omega)
  · intro hn
    have hn' : ns'.Nodup := hp.nodup_iff.mpr hn
    refine lt_unique ?_ hm (fun k => by rw [hp.mem_iff, h k])
    exact (hs.and hn').imp fun {a b} h => by have := h.1; have := h.2; omega
end Pv

namespace Pv
open PySem PySem.Spec PyProof.Rows L2
theorem range_fx {cs : List Int} {gs : List Gp} (ok : InsOk cs gs) (Fe : FeasI cs gs (es0 cs gs)) {j : Nat} {g : Gp} (hg : gs[j]? = some g) {a b : Int} (ha : IsMax a (0 :: lows (slk (nzP cs gs) (spOf cs gs) (rCro cs gs) (es0 cs gs)) (sgn (nzP cs gs) (rCro cs gs) (routeOf cs gs g)) g.2))
    (hb : IsMin b (g.2 :: highs (slk (nzP cs gs) (spOf cs gs) (rCro cs gs) (es0 cs gs)) (sgn (nzP cs gs) (rCro cs gs) (routeOf cs gs g)))) :
    0 ≤ a ∧ a ≤ b ∧ b ≤ g.2 ∧ (∀ r, routeOf cs gs g = some r → ∀ x, 0 ≤ x → x ≤ g.2 → (FeasI cs gs (esF cs gs (some (j, g, r, x))) ↔ a ≤ x ∧ x ≤ b)) ∧ (routeOf cs gs g = none → a = 0 ∧ b = 0) := by
  have W := wf_es0 ok
  have he := es0_at (cs := cs) hg
  obtain ⟨⟨a0, ac, oa⟩, ⟨b0, bc, ob⟩, hx⟩ := range_ok W (rin_es0 ok) Fe he ha hb
  have ab : a ≤ b := ((hx a a0 ac).mp oa).2
  refine ⟨a0, ab, bc, fun r hr x x0 xc => ?_, fun hn => ?_⟩
  · rw [← hx x x0 xc]
    have e := opn_iff W Fe he x
    rw [← e]
    show FeasI cs gs ((es0 cs gs).set j (some r, x, x)) ↔ FeasI cs gs ((es0 cs gs).set j (routeOf cs gs g, x, x))
    rw [hr]
  · have h1 := hb.2 _ (List.mem_cons_of_mem _ (high_mem.mpr (.inl ⟨hn, rfl⟩)))
    have h2 : ZS (es0 cs gs) = 0 := ZS_fx (fx := none) (cs := cs) (gs := gs) trivial
    rw [h2] at h1
    omega
def rgI (a b : Int) : List Int := (List.range (b - a).toNat).map fun (i : Nat) => a + (i : Int)
theorem rgI_V (a b : Int) : rgV a b = (rgI a b).map V.int := by unfold rgV rgI; rw [List.map_map]; rfl
theorem rgI_lt (a b : Int) : (rgI a b).Pairwise (· < ·) := by
  unfold rgI
  rw [List.pairwise_map]
  exact List.Pairwise.imp (fun h => by omega) List.pairwise_lt_range
theorem rgI_mem {a b x : Int} : x ∈ rgI a b ↔ a ≤ x ∧ x < b := by
  unfold rgI
  rw [List.mem_map]
  constructor
  · rintro ⟨i, hi, rfl⟩; have := List.mem_range.mp hi; omega
  · rintro ⟨h1, h2⟩; exact ⟨(x - a).toNat, List.mem_range.mpr (by omega), by omega⟩
theorem rgI_len (a b : Int) : (rgI a b).length = (b - a).toNat := by unfold rgI; rw [List.length_map, List.length_range]
theorem eqv_self : ∀ as : List Int, PyData.eqv (.list (as.map PyData.int)) (.list (as.map PyData.int)) = true := by
  intro as
  rw [PyData.eqv]
  induction as with
  | nil => simp [PyData.eqvAll]
  | cons a as ih => simp [PyData.eqvAll, PyData.eqv, ih]
theorem dpApp {K : PySem.W.Frag} {H : Hp} : ∀ {vs ws : List V} {ds es : List PyData}, DpAll K H vs ds → DpAll K H ws es → DpAll K H (vs ++ ws) (ds ++ es)
  | [], ws, [], es, .nil, h => h
  | _ :: _, ws, _ :: _, es, .cons h1 h2, h => .cons h1 (dpApp h2 h)
theorem dpTake {K : PySem.W.Frag} {H : Hp} : ∀ {vs : List V} {ds : List PyData} (n : Nat), DpAll K H vs ds → DpAll K H (vs.take n) (ds.take n)
  | [], [], n, .nil => by simp; exact .nil
  | _ :: _, _ :: _, 0, _ => by simp; exact .nil
  | _ :: _, _ :: _, n + 1, .cons h1 h2 => by simp only [List.take_succ_cons]; exact .cons h1 (dpTake n h2)
theorem dpDrop {K : PySem.W.Frag} {H : Hp} : ∀ {vs : List V} {ds : List PyData} (n : Nat), DpAll K H vs ds → DpAll K H (vs.drop n) (ds.drop n)
  | [], [], n, .nil => by simp; exact .nil
  | _ :: _, _ :: _, 0, h => by simpa using h
  | _ :: _, _ :: _, n + 1, .cons h1 h2 => by simp only [List.drop_succ_cons]; exact dpDrop n h2
end Pv

namespace Pv
open PySem PySem.Spec PyProof.Rows L2
abbrev sFa : Stmt := topS 27
theorem scFa : FnScope ["_law_deck_here", "_law_posts", "_law_many", "_law_unit", "_law_capacities", "_law_post", "_law_rows", "_law_group", "_law_order", "_law_count", "_law_top", "_law_row"] ["_law_deck_here", "_law_posts"] (defScope sFa) := ⟨rfl, rfl, rfl, by decide +kernel, rfl, by decide +kernel, by decide +kernel⟩
def GOk (n : Nat) (g : Gp) : Prop := g.1.length ≤ 6 ∧ (∀ p ∈ g.1, 0 ≤ p ∧ p < (n : Int)) ∧ 1 ≤ g.2 ∧ g.2 ≤ 10 ^ 12
section
variable {P : Program} {w : World} {K : PySem.W.Frag} {mg : Str → Option Value} {base : Heap}
def spFa (K : PySem.W.Frag) : Sp := fun vs H Q _ => ∃ (st c r : Addr) (t : Nat), vs = [.ref st, .int 6] ∧ DU H st c r t ∧ t + 400 ≤ 900000 ∧
  ∀ (H' : Hp) (p : Addr) (t' : Nat) (cs : List Int) (gs : List Gp), DU H' st c r t' → t' ≤ t + 300 → Ext st r H H' → Dp K H' (.ref p) (dInst cs gs) → InsOk cs gs → Q (.ref p) H'
set_option maxHeartbeats 16000000 in
theorem ok_Fa {f fDr fGt fMx fLl : Addr} {fd fdDr fdGt fdMx fdLl : FuncData} (F : Fun K "_law_far" "_law_far" sFa f fd)
    (FDr : Fun K "_law_draw" "_law_draw" sDr fDr fdDr) (bDr : Binds K fdDr ["_law_deck_here", "_law_many"] []) (gDr : mg "_law_draw" = some (.ref fDr)) (GDr : FnOk P w K mg base CX0 1 fDr fdDr ["_law_deck_here", "_law_many"] spDraw)
    (FGt : Fun K "_law_great" "_law_great" sGt fGt fdGt) (bGt : Binds K fdGt ["_law_deck_here", "_law_many"] []) (gGt : mg "_law_great" = some (.ref fGt)) (GGt : FnOk P w K mg base CX0 2 fGt fdGt ["_law_deck_here", "_law_many"] spGt)
    (FMx : Fun K "_law_mixed" "_law_mixed" sMx fMx fdMx) (bMx : Binds K fdMx ["_law_deck_here", "_law_row"] []) (gMx : mg "_law_mixed" = some (.ref fMx)) (GMx : FnOk P w K mg base CX0 2 fMx fdMx ["_law_deck_here", "_law_row"] (spMx K))
    (FLl : Fun K "_law_led" "_law_led" sLl fLl fdLl) (bLl : Binds K fdLl ["_law_row", "_law_post"] []) (gLl : mg "_law_led" = some (.ref fLl)) (GLl : FnOk P w K mg base CX0 1 fLl fdLl ["_law_row", "_law_post"] (spLl K))
    (m_range : mg "range" = none) (m_max : mg "max" = none) (m_list : mg "list" = none) (m_tuple : mg "tuple" = none) :
    FnOk P w K mg base CX0 3 f fd ["_law_deck_here", "_law_posts"] (spFa K) := by
  refine F.ok scFa (fun vs H Q E h => ?_) (fun cdv A outer s H vs Q E hr h => ?_)
  · obtain ⟨st, c, r, t, rfl, _⟩ := h; rfl
  · obtain ⟨st, c, r, t, rfl, hd, ht, q⟩ := h
    have hu64 : (A.deeper (envOfC "_law_far" (defScope sFa) s.heap.objs.size f cdv)).units + 64 < cLine := by have := hr.un; omega
    have hu0 : (A.deeper (envOfC "_law_far" (defScope sFa) s.heap.objs.size f cdv)).units < cLine := by have := hr.un; omega
    refine ⟨_, pss_cons (ps_set (i := 2) scFa.nd rfl (.inl rfl) (pe_op op_add (pe_int) (pe_call GDr (hr.mono (by omega)) (by rfl) gDr FDr.kp bDr .nil pass0 (pa_cons (pv 0) (pa_cons (pv 1) pa_nil)))))
      (pss_cons (ps_set (i := 3) scFa.nd rfl (.inl rfl) (pe_ix ix_list (pe_lst (pa_cons (pe_int) (pa_cons (pe_op op_add (pe_int) (pe_call GGt (hr.mono (by omega)) (by rfl) gGt FGt.kp bGt .nil pass0 (pa_cons (pv 0) (pa_cons (pe_op op_pow (pe_int) (pe_int)) pa_nil)))) pa_nil))) (pe_call GDr (hr.mono (by omega)) (by rfl) gDr FDr.kp bDr .nil pass0 (pa_cons (pv 0) (pa_cons (pe_int) pa_nil))) (fun _ _ => rfl)))
      (pss_cons (ps_set (i := 4) scFa.nd rfl (.inl rfl) (pe_lst (pa_nil)))
      (pss_cons (ps_for PassesOwn.never rfl (pi_range1 (by rfl) m_range (pa_cons (pv 2) pa_nil)) (pg_name (i := 5) scFa.nd rfl (.inl rfl))
        (pss_one (ps_expr (pe_bm PySem.F.plainAttrs_list PySem.F.slot_list_append PySem.F.type_list_append mt_append (pv 4) (pa_cons (pe_callB (call_max2 rfl) (by rfl) m_max (by decide +kernel) (pa_cons (pe_int) (pa_cons (pe_op op_sub (pe_op op_add (pe_op op_mul (pv 3) (pe_op op_add (pe_int) (pe_call GDr (hr.mono (by omega)) (by rfl) gDr FDr.kp bDr .nil pass0 (pa_cons (pv 0) (pa_cons (pe_int) pa_nil))))) (pe_call GDr (hr.mono (by omega)) (by rfl) gDr FDr.kp bDr .nil pass0 (pa_cons (pv 0) (pa_cons (pe_int) pa_nil)))) (pe_int)) pa_nil))) pa_nil)))))
      (pss_cons (ps_set (i := 6) scFa.nd rfl (.inl rfl) (pe_lst (pa_nil)))
      (pss_cons (ps_for PassesOwn.never rfl (pi_range1 (by rfl) m_range (pa_cons (pe_op op_add (pe_int) (pe_call GDr (hr.mono (by omega)) (by rfl) gDr FDr.kp bDr .nil pass0 (pa_cons (pv 0) (pa_cons (pe_int) pa_nil)))) pa_nil)) (pg_name (i := 7) scFa.nd rfl (.inl rfl))
        (pss_cons (ps_set (i := 8) scFa.nd rfl (.inl rfl) (pe_call GMx (hr.mono (by omega)) (by rfl) gMx FMx.kp bMx .nil pass0 (pa_cons (pv 0) (pa_cons (pe_listRg rfl (by rfl) m_list (prg_1 (by rfl) m_range (pv 2))) pa_nil))))
        (pss_cons (ps_set (i := 9) scFa.nd rfl (.inl rfl) (pe_callB (call_max2 rfl) (by rfl) m_max (by decide +kernel) (pa_cons (pe_int) (pa_cons (pe_op op_sub (pe_op op_add (pe_op op_mul (pv 3) (pe_op op_add (pe_int) (pe_call GDr (hr.mono (by omega)) (by rfl) gDr FDr.kp bDr .nil pass0 (pa_cons (pv 0) (pa_cons (pe_int) pa_nil))))) (pe_call GDr (hr.mono (by omega)) (by rfl) gDr FDr.kp bDr .nil pass0 (pa_cons (pv 0) (pa_cons (pe_int) pa_nil)))) (pe_int)) pa_nil))))
        (pss_one (ps_expr (pe_bm PySem.F.plainAttrs_list PySem.F.slot_list_append PySem.F.type_list_append mt_append (pv 6) (pa_cons (pe_tup (pa_cons (pe_callTy call_tupQ (by rfl) m_tuple (by decide +kernel) (pa_cons (pe_slice sl_list (pv 8) po_none (po_some (pe_op op_sub (pv 2) (pe_op op_mul (pe_call GDr (hr.mono (by omega)) (by rfl) gDr FDr.kp bDr .nil pass0 (pa_cons (pv 0) (pa_cons (pe_op op_add (pv 2) (pe_int)) pa_nil))) (pe_call GDr (hr.mono (by omega)) (by rfl) gDr FDr.kp bDr .nil pass0 (pa_cons (pv 0) (pa_cons (pe_int) pa_nil))))))) pa_nil)) (pa_cons (pv 9) pa_nil))) pa_nil)))))))
      (pss_cons (ps_set (i := 10) scFa.nd rfl (.inr rfl) (pe_lc (own := [("_law_row", 11)]) (g := gName 11) (tt := tTest (tOp (rNeNilT K) (tOp (rIxT K) (tVar 11) (tC (.int 0))) (tTup (tNil)))) (te := tOp (rIxT K) (tOp (rIxT K) (tVar 11) (tC (.int 0))) (tC (.int 0))) rfl scFa.nd (pi_list (pv 6)) (blkOk_by (N := ["_law_deck_here", "_law_posts", "_law_many", "_law_unit", "_law_capacities", "_law_post", "_law_rows", "_law_group", "_law_order", "_law_count", "_law_top", "_law_row"]) (sc := defScope sFa) (by decide +kernel)) (fun _ _ _ _ _ => pg_name (i := 11) scFa.nd rfl (.inl rfl)) (fun _ _ _ _ _ => pts_one (pt_cmpR (op_neNilT hu0) (pe_ix ix_tup (pv 11) (pe_int) (fun _ _ => rfl)) (pe_tup (pa_nil)) (nomark _))) (fun _ _ _ _ _ => pe_ix ix_tup (pe_ix ix_tup (pv 11) (pe_int) (fun _ _ => rfl)) (pe_int) (fun _ _ => rfl))))
      (pss_cons (ps_if (PW.pt (pw_and (pt_cmpR (op_neD hu64) (pv 10) (pe_lst (pa_nil)) (nomark _)) (pw_and1 (pt_cmpR op_eq (pe_call GDr (hr.mono (by omega)) (by rfl) gDr FDr.kp bDr .nil pass0 (pa_cons (pv 0) (pa_cons (pe_int) pa_nil))) (pe_int) (nomark _)))))
        (pss_one (ps_setLc (i := 6) (own := [("_law_row", 11)]) (g := gName 11) (tt := tYes) (te := tCall (spLl K) [] E0 (tCons (tVar 11) (tCons (tOp (rIxL K) (tVar 10) (tC (.int 0))) tNil))) rfl scFa.nd rfl rfl (sw_true rfl rfl rfl (by decide +kernel)) (pi_list (pv 6)) (blkOk_by (N := ["_law_deck_here", "_law_posts", "_law_many", "_law_unit", "_law_capacities", "_law_post", "_law_rows", "_law_group", "_law_order", "_law_count", "_law_top", "_law_row"]) (sc := defScope sFa) (by decide +kernel)) (fun _ _ _ _ _ => pg_name (i := 11) scFa.nd rfl (.inl rfl)) (fun _ _ _ _ _ => pts_nil) (fun _ _ _ _ _ => pe_call GLl (hr.mono (by omega)) (by rfl) gLl FLl.kp bLl .nil pass0 (pa_cons (pv 11) (pa_cons (pe_ix ix_list (pv 10) (pe_int) (fun _ _ => rfl)) pa_nil))))) pss_nil)
      (pss_one (ps_ret (pe_tup (pa_cons (pe_callTy call_tupQ (by rfl) m_tuple (by decide +kernel) (pa_cons (pv 4) pa_nil)) (pa_cons (pe_callTy call_tupQ (by rfl) m_tuple (by decide +kernel) (pa_cons (pv 6) pa_nil)) pa_nil)))))))))))), ?_⟩
    -- how many posts
    refine ⟨.ref st, rfl, .int 6, rfl, st, c, r, t, 6, rfl, hd, by omega, by decide, by decide, fun H1 d1 h10 h11 D1 X1 => ⟨_, _, rfl, rfl, ?_⟩⟩
    dsimp only
    obtain ⟨mN, hmN, mb⟩ : ∃ mN : Nat, 1 + d1 = (mN : Int) ∧ (1 ≤ mN ∧ mN ≤ 6) := ⟨(1 + d1).toNat, by omega, by omega⟩
    rw [hmN]
    -- the unit
    refine ⟨.ref st, rfl, _, _, rfl, rfl, ⟨by decide, by decide, by decide⟩, st, c, r, _, _, rfl, D1, by omega, by decide, by decide, fun H2 d2 h20 h21 D2 X2 => ⟨_, _, rfl, rfl, (show (2 : Nat) ≤ sizeLine by decide), fun Z nZ => ⟨.ref st, rfl, st, c, r, _, 2, rfl, D2.new nZ, by omega, by decide, by decide, fun H3 k3 h30 h31 D3 X3 => ?_⟩⟩⟩
    have oZ := D2.off nZ
    have hp11 : (10 : Int) ^ (11 : Int).toNat = 100000000000 := by decide
    rw [hp11] at h21
    obtain ⟨un, hun, ub⟩ : ∃ un : Int, atI [V.int 1, V.int (1 + d2)] k3 = some (.int un) ∧ (1 ≤ un ∧ un ≤ 100000000000) := by
      obtain h | h : k3 = 0 ∨ k3 = 1 := by omega
      · exact ⟨1, by rw [h]; rfl, by decide⟩
      · exact ⟨1 + d2, by rw [h]; rfl, by omega⟩
    refine ⟨Z, _, _, .int un, rfl, rfl, SqL.of (X3 _ _ upd_same oZ.1 oZ.2.2), hun, ?_⟩
    have X03 : Ext st r H H3 := X1.trans (X2.trans ((Ext.of (sameNew nZ)).trans X3))
    have bnd : ∀ {a b : Int}, 0 ≤ a → a < 5 → 0 ≤ b → b < 3 → CMul un (1 + a) ∧ 1 ≤ (if un * (1 + a) + b - 1 > 1 then un * (1 + a) + b - 1 else 1) ∧ (if un * (1 + a) + b - 1 > 1 then un * (1 + a) + b - 1 else 1) ≤ 10 ^ 12 := by
      intro a b a0 a1 b0 b1
      have h1 : un * (1 + a) ≤ 100000000000 * 5 := Int.mul_le_mul ub.2 (by omega) (by omega) (by decide)
      refine ⟨.inl (by omega), ?_, ?_⟩
      · split <;> omega
      · split <;> omega
    -- capacities
    refine ⟨Nat.zero_le _, fun Ca nCa => ?_⟩
    have oC := D3.off nCa
    have fCa : H Ca = none := D3.nil X03 nCa
    have X04 : Ext st r H (upd H3 Ca (.lst [])) := X03.trans (Ext.of (sameNew nCa))
    refine ⟨.int mN, rfl, mN, rfl, by omega, by omega, for_it (walk_range (lo := 0) (n := ((mN : Nat) : Int).toNat))
      (fun k σ Hx => ∃ (tx : Nat) (y5 : Option V) (cl : List Int), σ = [some (.ref st), some (.int 6), some (.int mN), some (.int un), some (.ref Ca), y5, none, none, none, none, none, none] ∧ DU Hx st c r tx ∧ tx ≤ t + 4 + 2 * k ∧ Ext st r H Hx ∧ Hx Ca = some (.lst (cl.map V.int)) ∧ cl.length = k ∧ ∀ c ∈ cl, 1 ≤ c ∧ c ≤ 10 ^ 12)
      ⟨_, none, [], rfl, D3.new nCa, by omega, X04, upd_same, rfl, fun c h => by simp at h⟩ (fun _ _ _ _ _ => trivial) ?_ ?_⟩
    · rintro k v σ Hx Hx' hk ⟨tx, y5, cl, rfl, Dx, htx, Xx, eC, lc, hcl⟩ ⟨rfl, rfl⟩
      have hk : k < ((mN : Nat) : Int).toNat := hk
      dsimp only
      refine ⟨.ref Ca, rfl, .inl ⟨rfl, _, SqL.of eC⟩, .int un, rfl, .ref st, rfl, st, c, r, _, 5, rfl, Dx, by omega, by decide, by decide, fun Ha da a0 a1 Da Xa => ⟨_, _, rfl, rfl, _, _, rfl, rfl, (bnd a0 a1 (b := 0) (by decide) (by decide)).1, .ref st, rfl, st, c, r, _, 3, rfl, Da, by omega, by decide, by decide, fun Hb db b0 b1 Db Xb => ?_⟩⟩
      have eCb := (Xa.trans Xb) _ _ eC oC.1 oC.2.2
      refine ⟨_, _, rfl, rfl, _, _, rfl, rfl, _, _, rfl, Ca, _, _, rfl, rfl, eCb, by rw [List.length_map, lc]; exact small (by omega), _, _, cl ++ [if un * (1 + da) + db - 1 > 1 then un * (1 + da) + db - 1 else 1], rfl, Db.put oC, by omega, ExtPut (Xx.trans (Xa.trans Xb)) fCa, by rw [upd_same, List.map_append]; rfl, by simp [lc], fun c' hc' => ?_⟩
      rcases List.mem_append.mp hc' with h | h
      · exact hcl c' h
      · simp only [List.mem_singleton] at h
        rw [h]
        exact (bnd a0 a1 b0 b1).2
    rintro σ H5 ⟨t5, y5, cl, rfl, D5, ht5, X5, eC5, lcl, hcl⟩
    have lcl : cl.length = mN := by omega
    -- groups
    refine ⟨Nat.zero_le _, fun Rw nRw => ?_⟩
    have oR := D5.off nRw
    have fRw : H Rw = none := D5.nil X5 nRw
    have nCR : Ca ≠ Rw := ne_of_none eC5 nRw
    refine ⟨.ref st, rfl, st, c, r, _, 10, rfl, D5.new nRw, by omega, by decide, by decide, fun H6 d6 h60 h61 D6 X6 => ⟨_, _, rfl, rfl, 1 + d6, rfl, by omega, by omega, ?_⟩⟩
    have X06 : Ext st r H H6 := X5.trans ((Ext.of (sameNew nRw)).trans X6)
    have eC6 := X6 _ _ (upNew nRw eC5) oC.1 oC.2.2
    have eR6 : H6 Rw = some (.lst []) := X6 _ _ upd_same oR.1 oR.2.2
    refine for_it (walk_range (lo := 0) (n := (1 + d6).toNat))
      (fun k σ Hx => ∃ (tx : Nat) (y7 y8 y9 : Option V) (vs : List V) (gl : List Gp), σ = [some (.ref st), some (.int 6), some (.int mN), some (.int un), some (.ref Ca), y5, some (.ref Rw), y7, y8, y9, none, none] ∧ DU Hx st c r tx ∧ tx ≤ t + 18 + 10 * k ∧ Ext st r H Hx ∧ Hx Ca = some (.lst (cl.map V.int)) ∧ Hx Rw = some (.lst vs) ∧ DpAll K Hx vs (gl.map dGrp) ∧ gl.length = k ∧ ∀ g ∈ gl, GOk mN g)
      ⟨_, none, none, none, [], [], rfl, D6, by omega, X06, eC6, eR6, .nil, rfl, fun g h => by simp at h⟩ (fun _ _ _ _ _ => trivial) ?_ ?_
    · rintro k v σ Hx Hx' hk ⟨tx, y7, y8, y9, vs, gl, rfl, Dx, htx, Xx, eC, eR, hG, lg, hg⟩ ⟨rfl, rfl⟩
      have hk : k < (1 + d6).toNat := hk
      dsimp only
      have lvs : vs.length = k := by have := DpAll.len hG; rw [List.length_map] at this; omega
      refine ⟨.ref st, rfl, .int mN, rfl, mN, rfl, ⟨by omega, by omega, by omega, by omega, by omega⟩, fun Lr nLr => ?_⟩
      have sLr := sameNew (o := .lst (rgV 0 mN)) nLr
      have lrg : (rgI 0 (mN : Int)).length = mN := by rw [rgI_len]; omega
      refine ⟨st, c, r, Lr, _, rgI 0 mN, rfl, Dx.new nLr, by omega, by rw [upd_same, rgI_V], by omega, fun H7 Or ms hsub _ lms eO o1 o2 o3 D7 X7 => ?_⟩
      rw [lrg] at D7 lms
      have X67 := (Ext.of (st := st) (r := r) sLr).trans X7
      have tk7 := Dx.tup X67
      -- the count
      refine ⟨.int un, rfl, .ref st, rfl, st, c, r, _, 4, rfl, D7, by omega, by decide, by decide, fun Ha da a0 a1 Da Xa => ⟨_, _, rfl, rfl, _, _, rfl, rfl, (bnd a0 (by omega) (b := 0) (by decide) (by decide)).1, .ref st, rfl, st, c, r, _, 3, rfl, Da, by omega, by decide, by decide, fun Hb db b0 b1 Db Xb => ?_⟩⟩
      refine ⟨_, _, rfl, rfl, _, _, rfl, rfl, _, _, rfl, ?_⟩
      have Xab := Xa.trans Xb
      have eOb := Xab _ _ eO o1 o3
      have X6b := X67.trans Xab
      have eRb := X6b _ _ eR oR.1 oR.2.2
      have eCb := X6b _ _ eC oC.1 oC.2.2
      have cb := (bnd a0 (show da < 5 by omega) b0 b1).2
      generalize (if un * (1 + da) + db - 1 > 1 then un * (1 + da) + db - 1 else 1) = cnt at cb ⊢
      -- the row
      refine ⟨.ref Rw, rfl, .inl ⟨rfl, _, SqL.of eRb⟩, .ref Or, rfl, .int mN, rfl, .ref st, rfl, .int mN, rfl, _, _, rfl, rfl, st, c, r, _, _, rfl, Db, by omega, by omega, by omega, fun H8 d8 h80 h81 D8 X8 => ⟨.ref st, rfl, st, c, r, _, 2, rfl, D8, by omega, by decide, by decide, fun H9 d9 h90 h91 D9 X9 => ?_⟩⟩
      obtain ⟨nn, hnn, nnb⟩ : ∃ nn : Nat, (mN : Int) - d8 * d9 = (nn : Int) ∧ nn ≤ mN := by
        obtain h | h : d9 = 0 ∨ d9 = 1 := by omega
        · exact ⟨mN, by rw [h]; omega, Nat.le_refl _⟩
        · exact ⟨((mN : Int) - d8).toNat, by rw [h]; omega, by omega⟩
      have hmul : CMul d8 d9 := .inl (by omega)
      refine ⟨_, _, rfl, rfl, hmul, _, _, rfl, rfl, (mN : Int) - d8 * d9, rfl, ?_⟩
      have eO9 := (X8.trans X9) _ _ eOb o1 o3
      refine ⟨Or, _, rfl, SqL.of eO9, fun Ls nLs => ?_⟩
      have hcut : cutV (ms.map V.int) none (some ((mN : Int) - d8 * d9)) = (ms.take nn).map V.int := by rw [hnn, cut_to, List.map_take]
      rw [hcut]
      have sLs := sameNew (o := .lst ((ms.take nn).map V.int)) nLs
      refine ⟨Ls, _, rfl, .inl ⟨SqL.of upd_same, fun Tp nTp => ⟨.int cnt, rfl, (show (2 : Nat) ≤ sizeLine by decide), fun Ga nGa => ?_⟩⟩⟩
      have sTp := sameNew (o := .tup ((ms.take nn).map V.int)) nTp
      have sGa := sameNew (o := .tup [.ref Tp, .int cnt]) nGa
      have s9 := sLs.trans (sTp.trans sGa)
      have X89 := X8.trans X9
      have eR10 := s9 _ _ (X89 _ _ eRb oR.1 oR.2.2)
      have eC10 := s9 _ _ (X89 _ _ eCb oC.1 oC.2.2)
      have tk10 : TupK Hx' _ := (Dx.tup X6b).trans ((Db.tup X89).trans (.of s9))
      have X010 := Xx.trans (X6b.trans (X89.trans (Ext.of (st := st) (r := r) s9)))
      have D10 := D9.same s9
      have hTp : Dp K (upd (upd (upd H9 Ls (.lst ((ms.take nn).map V.int))) Tp (.tup ((ms.take nn).map V.int))) Ga (.tup [.ref Tp, .int cnt])) (.ref Ga) (dGrp (ms.take nn, cnt)) := .tup (SqT.of upd_same) (.cons (dI_sq (sqS sGa (SqT.of upd_same))) (.cons (.int _) .nil))
      generalize upd (upd (upd H9 Ls (.lst ((ms.take nn).map V.int))) Tp (.tup ((ms.take nn).map V.int))) Ga (.tup [.ref Tp, .int cnt]) = H10 at eR10 eC10 tk10 X010 D10 hTp ⊢
      have tkp : TupK H10 (upd H10 Rw (.lst (vs ++ [.ref Ga]))) := TupK.put eR10
      refine ⟨Rw, vs, _, rfl, rfl, eR10, small (by omega), _, _, _, _, vs ++ [.ref Ga], gl ++ [(ms.take nn, cnt)], rfl, D10.put oR, by omega, ExtPut X010 fRw, by rw [upd_ne nCR]; exact eC10, upd_same, ?_, by simp [lg], fun g' hg' => ?_⟩
      · rw [List.map_append]
        exact DpAll.snoc ((tk10.trans tkp).dpAll _ _ (to_grps _) hG) (tkp.dp _ _ (to_dGrp _) hTp)
      · rcases List.mem_append.mp hg' with h | h
        · exact hg g' h
        · simp only [List.mem_singleton] at h
          subst h
          refine ⟨by rw [List.length_take]; omega, fun p hp => ?_, cb.1, cb.2⟩
          have := rgI_mem.mp (hsub p (List.mem_of_mem_take hp))
          exact ⟨this.1, this.2⟩
    -- the first posts of the groups
    rintro σ H11 ⟨t11, y7, y8, y9, vs, gl, rfl, D11, ht11, X11, eC11, eR11, hG, lgl, hg⟩
    have lgl : gl.length = (1 + d6).toNat := lgl
    have lvs : vs.length = gl.length := by have := DpAll.len hG; rwa [List.length_map] at this
    refine ⟨.ref Rw, rfl, Rw, rfl, ⟨_, SqL.of eR11⟩, fun To nTo => lc_it (walk_list (K := K) (a := Rw) (xs := vs))
      (LcP H11 To gl (fun g => g.1.head?.map V.int)) (.start nTo) (fun j H3 _ h => SqL.of (h.1 _ _ eR11)) ?_ ?_⟩
    · rintro j x H3 H4 hj hL ⟨rfl, hx⟩
      have hx : vs[j]? = some x := hx
      have hj : j < gl.length := by omega
      obtain ⟨aG, pG, e1, sG, sP⟩ := grp_at hG (List.getElem?_eq_getElem hj)
      rw [hx] at e1
      cases e1
      have sG := sqS hL.1 sG
      have sP := sqS hL.1 sP
      refine ⟨rfl, .ref aG, rfl, aG, _, _, _, rfl, rfl, sG, rfl, Nat.zero_le _, fun Z nZ => ⟨pG, Z, _, rfl, rfl, sqS (sameNew nZ) sP, SqT.of upd_same, _, rfl, ite2 (fun hne => ?_) (fun hne => ?_)⟩⟩
      · have hne : (gl[j].1.map V.int).isEmpty = false := by simpa using hne
        obtain ⟨p0, hp0⟩ : ∃ p0, gl[j].1.head? = some p0 := by
          cases h : gl[j].1 with
          | nil => rw [h] at hne; cases hne
          | cons a l => exact ⟨a, rfl⟩
        refine ⟨.ref aG, rfl, aG, _, _, _, rfl, rfl, sqS (sameNew nZ) sG, rfl, pG, _, _, .int p0, rfl, rfl, sqS (sameNew nZ) sP, ?_, ?_⟩
        · refine atI_nat (j := 0) ?_
          rw [List.getElem?_map, ← List.head?_eq_getElem?, hp0]; rfl
        · exact hL.yes nTo (sameNew nZ) (List.getElem?_eq_getElem hj) (by rw [hp0]; rfl) (by omega)
      · have hne : (gl[j].1.map V.int).isEmpty = true := by simpa using hne
        refine hL.no (sameNew nZ) (List.getElem?_eq_getElem hj) ?_
        cases h : gl[j].1 with
        | nil => rfl
        | cons a l => rw [h] at hne; cases hne
    rintro H12 hL
    have eT := hL.done (by omega)
    generalize hts : gl.filterMap (fun g => g.1.head?.map V.int) = ts at eT
    have s12 := hL.1
    have lts : ts.length ≤ 10 := by rw [← hts]; have := List.length_filterMap_le (fun g : Gp => g.1.head?.map V.int) gl; omega
    have tsI : ∃ zs : List Int, ts = zs.map V.int := by
      rw [← hts]
      refine ⟨gl.filterMap (fun g => g.1.head?), ?_⟩
      rw [List.map_filterMap]
    obtain ⟨zs, rfl⟩ := tsI
    have D12 := D11.same s12
    have eC12 := s12 _ _ eC11
    have eR12 := s12 _ _ eR11
    have hG12 := (TupK.of s12).dpAll _ _ (to_grps _) hG
    have X12 := X11.trans (Ext.of (st := st) (r := r) s12)
    have oT := D11.off nTo
    dsimp only [gName]
    refine (id ?_ : tSeq (tIfS _ _ _) _ _ _ _)
    refine seq_with (fun σ Hx => ∃ (tx : Nat) (Rx : Addr) (y7 y8 y9 : Option V) (vs : List V) (gl : List Gp), σ = [some (.ref st), some (.int 6), some (.int mN), some (.int un), some (.ref Ca), y5, some (.ref Rx), y7, y8, y9, some (.ref To), none] ∧ DU Hx st c r tx ∧ tx ≤ t + 200 ∧ Ext st r H Hx ∧ Hx Ca = some (.lst (cl.map V.int)) ∧ Hx Rx = some (.lst vs) ∧ DpAll K Hx vs (gl.map dGrp) ∧ gl.length = (1 + d6).toNat ∧ ∀ g ∈ gl, GOk mN g) (fun σ Hx h => ?_) (fun rest => ?_)
    · obtain ⟨tx, Rx, y7, y8, y9, vs, gl, rfl, Dx, htx, Xx, eC, eR, hG, lg, hg⟩ := h
      refine ⟨.ref Ca, rfl, Ca, _, rfl, .inl ⟨SqL.of eC, fun T1 n1 => ?_⟩⟩
      refine ⟨.ref Rx, rfl, Rx, _, rfl, .inl ⟨SqL.of (upNew n1 eR), fun T2 n2 => ⟨(show (2 : Nat) ≤ sizeLine by decide), fun p np => ?_⟩⟩⟩
      have s := (sameNew (o := .tup (cl.map V.int)) n1).trans ((sameNew (o := .tup vs) n2).trans (sameNew (o := .tup [.ref T1, .ref T2]) np))
      have e1 : SqT K (upd (upd (upd Hx T1 (.tup (cl.map V.int))) T2 (.tup vs)) p (.tup [.ref T1, .ref T2])) T1 (cl.map V.int) := SqT.of (upNew np (upNew n2 upd_same))
      have e2 : SqT K (upd (upd (upd Hx T1 (.tup (cl.map V.int))) T2 (.tup vs)) p (.tup [.ref T1, .ref T2])) T2 vs := SqT.of (upNew np upd_same)
      refine q _ p _ cl gl (Dx.same s) (by omega) (Xx.trans (Ext.of s)) (.tup (SqT.of upd_same) (.cons (dI_sq e1) (.cons (.tup e2 ((TupK.of s).dpAll _ _ (to_grps _) hG)) .nil))) ⟨by omega, by omega, hcl, by omega, by omega, fun g hgm => ?_⟩
      have := hg g hgm
      rw [lcl]
      exact this
    · refine ⟨.ref To, rfl, Nat.zero_le _, fun Z nZ => ⟨.list (zs.map PyData.int), .list [], .lst (SqL.of (upNew nZ eT)) (dp_ints zs), .lst (SqL.of upd_same) .nil, shaped_ints zs, by decide, _, rfl, ?_⟩⟩
      have sZ := sameNew (o := .lst []) nZ
      rw [eqv_empty]
      refine ite2 (fun hne => ?_) (fun hne => rest _ _ ⟨t11, Rw, y7, y8, y9, vs, gl, rfl, D12.same sZ, by omega, X12.trans (Ext.of sZ), sZ _ _ eC12, sZ _ _ eR12, (TupK.of sZ).dpAll _ _ (to_grps _) hG12, lgl, hg⟩)
      refine ⟨.ref st, rfl, st, c, r, _, 2, rfl, D12.same sZ, by omega, by decide, by decide, fun H13 d13 _ _ D13 X13 => ⟨rfl, _, rfl, ?_⟩⟩
      have tk13 : TupK H12 H13 := (TupK.of sZ).trans ((D12.same sZ).tup X13)
      have hG13 := tk13.dpAll _ _ (to_grps _) hG12
      have X013 := X12.trans ((Ext.of sZ).trans X13)
      have eC13 := X13 _ _ (sZ _ _ eC12) oC.1 oC.2.2
      have eR13 := X13 _ _ (sZ _ _ eR12) oR.1 oR.2.2
      have eT13 := X13 _ _ (sZ _ _ eT) oT.1 oT.2.2
      refine ite2 (fun hb => ?_) (fun hb => rest _ _ ⟨_, Rw, y7, y8, y9, vs, gl, rfl, D13, by omega, X013, eC13, eR13, hG13, lgl, hg⟩)
      obtain ⟨z0, zr, rfl⟩ : ∃ z0 zr, zs = z0 :: zr := by
        cases zs with
        | nil => simp at hne
        | cons a l => exact ⟨a, l, rfl⟩
      refine ⟨.ref Rw, rfl, Rw, rfl, ⟨_, SqL.of eR13⟩, fun R2 nR2 => lc_it (walk_list (K := K) (a := Rw) (xs := vs))
        (fun j Hx => Same H13 Hx ∧ ∃ (ws : List V) (gl' : List Gp), Hx R2 = some (.lst ws) ∧ DpAll K Hx ws (gl'.map dGrp) ∧ gl'.length = j ∧ ∀ g ∈ gl', GOk mN g)
        ⟨sameNew nR2, [], [], upd_same, .nil, rfl, fun g h => by simp at h⟩ (fun j H3 _ h => SqL.of (h.1 _ _ eR13)) ?_ ?_⟩
      · rintro j x H3 H4 hj ⟨s3, ws, gl', e3, hW, lw, hg'⟩ ⟨rfl, hx⟩
        have hx : vs[j]? = some x := hx
        have hj : j < gl.length := by omega
        obtain ⟨d, hdm, hdp⟩ := DpAll.at hG13 hx
        rw [List.getElem?_map, List.getElem?_eq_getElem hj] at hdm
        cases hdm
        obtain ⟨aG, pG, e1, _, _⟩ := grp_at hG13 (List.getElem?_eq_getElem hj)
        rw [hx] at e1
        cases e1
        have gk := hg _ (List.getElem_mem hj)
        refine ⟨rfl, .ref aG, rfl, .ref To, rfl, To, _, _, .int z0, rfl, rfl, SqL.of (s3 _ _ eT13), atI_nat (j := 0) rfl, aG, z0, gl[j], rfl, (TupK.of s3).dp _ _ (to_dGrp _) hdp, gk.1, fun H5 q5 g5 s5 h5 g2 gm gl5 => ?_⟩
        have e5 := s5 _ _ e3
        have tkp : TupK H5 (upd H5 R2 (.lst (ws ++ [.ref q5]))) := TupK.put e5
        have lws : ws.length = j := by have := DpAll.len hW; rw [List.length_map] at this; omega
        refine ⟨ws, e5, small (by omega), samePut (s3.trans s5) nR2, ws ++ [.ref q5], gl' ++ [g5], upd_same, ?_, by simp [lw], fun g' hg'' => ?_⟩
        · rw [List.map_append]
          exact DpAll.snoc (((TupK.of s5).trans tkp).dpAll _ _ (to_grps _) hW) (tkp.dp _ _ (to_dGrp _) h5)
        · rcases List.mem_append.mp hg'' with h | h
          · exact hg' g' h
          · simp only [List.mem_singleton] at h
            subst h
            exact ⟨by have := gk.1; omega, fun p hp => gk.2.1 p (gm p hp), by rw [g2]; exact gk.2.2.1, by rw [g2]; exact gk.2.2.2⟩
      · rintro H14 ⟨s14, ws, gl', e14, hW, lw, hg'⟩
        exact rest _ _ ⟨_, R2, y7, y8, y9, ws, gl', rfl, D13.same s14, by omega, X013.trans (Ext.of s14), s14 _ _ eC13, e14, hW, by omega, hg'⟩
end
end Pv

namespace Pv
open PySem PySem.Spec PyProof.Rows L2
/-! vectors and assignments -/
theorem zip_self_map {α β γ : Type} (f : α × β → γ) : ∀ (as : List α) (bs : List β), as.length = bs.length → as.zip ((as.zip bs).map f) = (as.zip bs).map (fun z => (z.1, f z))
  | [], [], _ => rfl
  | a :: as, b :: bs, h => by
    have ih := zip_self_map f as bs (by simpa using h)
    simp [ih]
  | [], _ :: _, h => by simp at h
  | _ :: _, [], h => by simp at h
theorem zip_fst {α β : Type} : ∀ {as : List α} {bs : List β}, as.length = bs.length → (as.zip bs).map (fun z => z.1) = as
  | [], [], _ => rfl
  | a :: as, b :: bs, h => by
    have ih := zip_fst (as := as) (bs := bs) (by simpa using h)
    simp [ih]
  | [], _ :: _, h => by simp at h
  | _ :: _, [], h => by simp at h
theorem zip_snd {α β : Type} : ∀ {as : List α} {bs : List β}, as.length = bs.length → (as.zip bs).map (fun z => z.2) = bs
  | [], [], _ => rfl
  | a :: as, b :: bs, h => by
    have ih := zip_snd (as := as) (bs := bs) (by simpa using h)
    simp [ih]
  | [], _ :: _, h => by simp at h
  | _ :: _, [], h => by simp at h
def mn (a b : Int) : Int := if b < a then b else a
def headC (q : Int) (g : Gp) : Int := match g.1 with | [] => 0 | p :: _ => if p = q then g.2 else 0
theorem dem_fold {n : Nat} : ∀ (gs : List Gp) (l : List Int), l.length = n → (∀ g ∈ gs, ∀ p ∈ g.1, 0 ≤ p ∧ p < (n : Int)) → ∀ q : Nat, (gs.foldl dAdd l).getD q 0 = l.getD q 0 + (gs.map (headC q)).sum
  | [], l, _, _, q => by simp
  | g :: gs, l, hl, h, q => by
    have ih := dem_fold gs (dAdd l g) (by rw [dAdd_len]; exact hl) (fun g' hg' => h g' (List.mem_cons_of_mem _ hg')) q
    rw [List.foldl_cons, ih, List.map_cons, List.sum_cons]
    have : (dAdd l g).getD q 0 = l.getD q 0 + headC q g := by
      unfold dAdd headC
      cases e : g.1 with
      | nil => simp
      | cons p ps =>
        have hp := h g List.mem_cons_self p (by rw [e]; exact List.mem_cons_self)
        obtain ⟨m, rfl⟩ : ∃ m : Nat, p = (m : Int) := ⟨p.toNat, by omega⟩
        have := addAt_get (ls := l) (p := m) (q := q) (x := g.2) (by omega)
        simp only
        rw [this]
        congr 1
        by_cases e2 : m = q
        · rw [if_pos e2, if_pos (by omega)]
        · rw [if_neg e2, if_neg (by omega)]
    rw [this]; omega
theorem dem_get {n : Nat} {gs : List Gp} (h : ∀ g ∈ gs, ∀ p ∈ g.1, 0 ≤ p ∧ p < (n : Int)) (q : Nat) : (demOf n gs).getD q 0 = (gs.map (headC q)).sum := by
  unfold demOf
  rw [dem_fold gs (zeros n) (by simp [zeros]) h q]
  have : (zeros n).getD q 0 = 0 := by
    unfold zeros
    rw [List.getD_eq_getElem?_getD, List.getElem?_replicate]
    split <;> rfl
  omega
section
variable {cs : List Int} {gs : List Gp} {xs : List Int} {rows : List (List Int)}
def resC (cs : List Int) (gs : List Gp) (g : Gp) : Nat := resOf g.1 (rCla cs gs)
def rowV (g : Gp) (r : Nat) (x : Int) : List Int := addAt ((zeros (g.1.length + 1)).set 0 (g.2 - x)) (r : Int) x
def asOf (cs : List Int) (gs : List Gp) (xs : List Int) : List (List Int) := (gs.zip xs).map fun z => rowV z.1 (resC cs gs z.1) z.2
def xOf (cs : List Int) (gs : List Gp) (z : Gp × List Int) : Int := match routeOf cs gs z.1 with | none => 0 | some _ => z.2.getD (resC cs gs z.1) 0
def vecOf (cs : List Int) (gs : List Gp) (rows : List (List Int)) : List Int := (gs.zip rows).map (xOf cs gs)
def onlyB (cs : List Int) (gs : List Gp) (zs : List (Gp × List Int)) : Bool := zs.all fun z => (List.range z.2.length).all fun k => decide (k = 0 ∨ k = resC cs gs z.1) || !decide (0 < z.2.getD k 0)
def servedOf (n : Nat) (zs : List (Gp × List Int)) : List Int := demOf n (zs.map fun z => ((z.1.1, z.2.getD 0 0) : Gp))
def metOf (cs : List Int) (gs : List Gp) : List Int := (cs.zip (rDem cs gs)).map fun z => mn z.1 z.2
def unbB (cs : List Int) (gs : List Gp) (rows : List (List Int)) : Bool := onlyB cs gs (gs.zip rows) && decide (servedOf cs.length (gs.zip rows) = metOf cs gs)
def Shp (gs : List Gp) (rows : List (List Int)) : Prop := rows.length = gs.length ∧ ∀ z ∈ gs.zip rows, z.2.length = z.1.1.length + 1
theorem resC_le (g : Gp) : resC cs gs g ≤ g.1.length := resOf_le ..
theorem resC_pos {g : Gp} (h : g.1 ≠ []) : 1 ≤ resC cs gs g := by
  unfold resC resOf
  cases e : (List.range' 1 (g.1.length - 1)).find? (isFree g.1 (rCla cs gs)) with
  | none => have : g.1.length ≠ 0 := fun z => h (List.length_eq_zero_iff.mp z); simp; omega
  | some k =>
    have := List.mem_of_find?_eq_some e
    rw [List.mem_range'] at this
    obtain ⟨i, _, rfl⟩ := this
    simp
theorem rowV_len (g : Gp) (r : Nat) (x : Int) : (rowV g r x).length = g.1.length + 1 := by unfold rowV; rw [addAt_len]; simp [zeros]
theorem rowV_get {g : Gp} {r : Nat} {x : Int} (hr : r ≤ g.1.length) (k : Nat) : (rowV g r x).getD k 0 = (if k = 0 then g.2 - x else 0) + (if r = k then x else 0) := by
  unfold rowV
  rw [addAt_get (by simp [zeros]; omega)]
  congr 1
  rw [List.getD_eq_getElem?_getD, List.getElem?_set]
  by_cases e : k = 0
  · subst e; simp [zeros]
  · rw [if_neg (fun z => e z.symm), if_neg e]
    unfold zeros
    rw [List.getElem?_replicate]
    split <;> rfl
theorem meets_sums (ok : InsOk cs gs) : meetsD cs gs xs = true ↔ (∀ z ∈ zsOf cs gs xs, z.1 = none → z.2 = 0) ∧ (∀ q (h : q < cs.length), ((zsOf cs gs xs).map (movP q)).sum = mx (- spOf cs gs q)) ∧ (∀ q (h : q < cs.length), ((zsOf cs gs xs).map (takP q)).sum ≤ mx (spOf cs gs q)) := by
  have hlen := mvOf_len cs.length (zsOf cs gs xs)
  have hget := fun q => mv_get (zs_in (xs := xs) ok) q
  have g1 : ∀ q (h : q < cs.length), (mvOf cs.length (zsOf cs gs xs)).1[q]'(by omega) = ((zsOf cs gs xs).map (movP q)).sum := fun q h => by
    rw [← (hget q).1, List.getD_eq_getElem?_getD, List.getElem?_eq_getElem (by omega)]; rfl
  have g2 : ∀ q (h : q < cs.length), (mvOf cs.length (zsOf cs gs xs)).2[q]'(by omega) = ((zsOf cs gs xs).map (takP q)).sum := fun q h => by
    rw [← (hget q).2, List.getD_eq_getElem?_getD, List.getElem?_eq_getElem (by omega)]; rfl
  unfold meetsD
  rw [Bool.and_eq_true, Bool.and_eq_true, decide_eq_true_iff, all_zip (α := Int) (by rw [hlen.2, rFre_len])]
  refine ⟨fun h => ⟨fun z hz hn => ?_, fun q hq => ?_, fun q hq => ?_⟩, fun h => ⟨⟨?_, ?_⟩, fun j h1 h2 => ?_⟩⟩
  · have := List.all_eq_true.mp h.1.1 z hz
    unfold goodZ at this
    rw [hn] at this
    simpa using this
  · rw [← g1 q hq, ← (exc_get (gs := gs) hq).1]
    congr 1
    exact h.1.2
  · have := h.2 q (by omega) (by rw [rFre_len]; exact hq)
    rw [g2 q hq, (exc_get (gs := gs) hq).2] at this
    exact this
  · rw [List.all_eq_true]
    intro z hz
    unfold goodZ
    cases hr : z.1 with
    | none => simp [h.1 z hz hr]
    | some r => rfl
  · refine List.ext_getElem (by rw [hlen.1, rExc_len]) fun q q1 q2 => ?_
    have hq : q < cs.length := by rw [hlen.1] at q1; exact q1
    rw [g1 q hq, h.2.1 q hq, (exc_get (gs := gs) hq).1]
  · have hq : j < cs.length := by rw [hlen.2] at h1; exact h1
    rw [g2 j hq, (exc_get (gs := gs) hq).2]
    exact h.2.2 j hq
theorem zs_map (f : Rt × Int → Int) : (zsOf cs gs xs).map f = (gs.zip xs).map (fun z => f (routeOf cs gs z.1, z.2)) := by
  unfold zsOf
  rw [List.zip_map_left, List.map_map]; rfl
theorem heads_in (ok : InsOk cs gs) : ∀ g ∈ gs, ∀ p ∈ g.1, 0 ≤ p ∧ p < (cs.length : Int) := fun g hg p hp => (ok.gp g hg).2.1 p hp
theorem sp_at (ok : InsOk cs gs) (q : Nat) : spOf cs gs q = cs.getD q 0 - (gs.map (headC q)).sum := by
  unfold spOf rDem
  rw [Int.toNat_natCast, dem_get (heads_in ok)]
theorem met_at {q : Nat} (h : q < cs.length) : (metOf cs gs).getD q 0 = cs.getD q 0 - mx (spOf cs gs q) := by
  have hd : q < (rDem cs gs).length := by rw [rDem_len]; exact h
  unfold metOf
  rw [List.getD_eq_getElem?_getD, List.getElem?_map, List.getElem?_eq_getElem (by rw [List.length_zip]; omega)]
  simp only [List.getElem_zip, Option.map_some, Option.getD_some]
  unfold spOf mn mx
  rw [Int.toNat_natCast, List.getD_eq_getElem?_getD, List.getElem?_eq_getElem h, List.getD_eq_getElem?_getD, List.getElem?_eq_getElem hd]
  simp only [Option.getD_some]
  split <;> split <;> omega
theorem met_len : (metOf cs gs).length = cs.length := by unfold metOf; rw [List.length_map, List.length_zip, rDem_len]; omega
theorem served_len (zs : List (Gp × List Int)) (n : Nat) : (servedOf n zs).length = n := demOf_len ..
theorem served_at {zs : List (Gp × List Int)} {n : Nat} (h : ∀ z ∈ zs, ∀ p ∈ z.1.1, 0 ≤ p ∧ p < (n : Int)) (q : Nat) : (servedOf n zs).getD q 0 = (zs.map (fun z => headC q (z.1.1, z.2.getD 0 0))).sum := by
  unfold servedOf
  rw [dem_get (fun g hg => by obtain ⟨z, hz, rfl⟩ := List.mem_map.mp hg; exact h z hz), List.map_map]; rfl
theorem claims_iff {zs : List (Gp × List Int)} : servedOf cs.length zs = metOf cs gs ↔ ∀ q, q < cs.length → (servedOf cs.length zs).getD q 0 = (metOf cs gs).getD q 0 := by
  constructor
  · intro h q _; rw [h]
  · intro h
    refine List.ext_getElem (by rw [served_len, met_len]) fun q q1 q2 => ?_
    have := h q (by rw [met_len] at q2; exact q2)
    rwa [List.getD_eq_getElem?_getD, List.getD_eq_getElem?_getD, List.getElem?_eq_getElem q1, List.getElem?_eq_getElem q2] at this
theorem zip_in {α β : Type} {as : List α} {bs : List β} {z : α × β} (h : z ∈ as.zip bs) : z.1 ∈ as ∧ z.2 ∈ bs := List.of_mem_zip (a := z.1) (b := z.2) h
end
end Pv

namespace Pv
open PySem PySem.Spec PyProof.Rows L2
/-! shortfalls: the posts with room, choices of posts, escapes, and the least of the open options -/
def rUnc (cs : List Int) (gs : List Gp) : List Int := ((List.range cs.length).map (fun (k : Nat) => (k : Int))).filter fun p => decide (0 < spOf cs gs p)
def ascB : List Int → Bool
  | [] => true
  | [_] => true
  | x :: y :: l => decide (x < y) && ascB (y :: l)
def rtB (ps : List Int) (d : PyData) : Bool := match intsOf d with | some xs => xs.all ps.contains && ascB xs | none => false
theorem asc_pw : ∀ {xs : List Int}, ascB xs = true ↔ xs.Pairwise (· < ·)
  | [] => by simp [ascB]
  | [x] => by simp [ascB]
  | x :: y :: l => by
    rw [ascB, Bool.and_eq_true, decide_eq_true_eq, asc_pw (xs := y :: l), List.pairwise_cons (a := x)]
    constructor
    · rintro ⟨h, p⟩
      refine ⟨fun z hz => ?_, p⟩
      rcases List.mem_cons.mp hz with rfl | hz
      · exact h
      · exact Int.lt_trans h (List.rel_of_pairwise_cons p hz)
    · rintro ⟨h, p⟩
      exact ⟨h y (List.mem_cons_self ..), p⟩
theorem lt_nodup {xs : List Int} (h : xs.Pairwise (· < ·)) : xs.Nodup := h.imp (fun h e => by omega)
theorem sub_len : ∀ {xs ps : List Int}, xs.Nodup → (∀ x ∈ xs, x ∈ ps) → xs.length ≤ ps.length
  | [], _, _, _ => Nat.zero_le _
  | x :: xs, ps, hn, hs => by
    have hx := hs x (List.mem_cons_self ..)
    have hn' := List.nodup_cons.mp hn
    have := sub_len (ps := ps.erase x) hn'.2 (fun y hy => (List.mem_erase_of_ne (fun (e : y = x) => hn'.1 (by rw [← e]; exact hy))).mpr (hs y (List.mem_cons_of_mem _ hy)))
    rw [List.length_erase_of_mem hx] at this
    have : 0 < ps.length := List.length_pos_of_mem hx
    rw [List.length_cons]; omega
theorem asc_len {xs ps : List Int} (h : ascB xs = true) (hs : xs.all ps.contains = true) : xs.length ≤ ps.length :=
  sub_len (lt_nodup (asc_pw.mp h)) (fun x hx => by simpa using List.all_eq_true.mp hs x hx)
theorem asc_zip : ∀ xs : List Int, (List.zipWith (fun a b => decide (a < b)) xs (xs.drop 1)).all id = ascB xs
  | [] => rfl
  | [x] => rfl
  | x :: y :: l => by
    have := asc_zip (y :: l)
    rw [ascB, ← this]
    simp
theorem asc_sorted {xs s : List Int} (hs : s.Pairwise (· < ·)) (hm : ∀ x, x ∈ s ↔ x ∈ xs) : decide (xs = s) = ascB xs := by
  by_cases h : ascB xs = true
  · rw [h]; exact decide_eq_true (lt_unique (asc_pw.mp h) hs (fun k => (hm k).symm))
  · have h' : ascB xs = false := by simpa using h
    rw [h']
    exact decide_eq_false (fun e => h (asc_pw.mpr (e ▸ hs)))
theorem unc_mem {cs : List Int} {gs : List Gp} {p : Int} : p ∈ rUnc cs gs ↔ (0 ≤ p ∧ p < (cs.length : Int)) ∧ 0 < spOf cs gs p := by
  unfold rUnc
  rw [List.mem_filter, List.mem_map, decide_eq_true_eq]
  constructor
  · rintro ⟨⟨k, hk, rfl⟩, h⟩
    rw [List.mem_range] at hk
    exact ⟨⟨by omega, by omega⟩, h⟩
  · rintro ⟨⟨h0, h1⟩, h⟩
    exact ⟨⟨p.toNat, List.mem_range.mpr (by omega), by omega⟩, h⟩
theorem posts_asc (n : Nat) : ((List.range n).map (fun (k : Nat) => (k : Int))).Pairwise (· < ·) := by
  rw [List.pairwise_map]
  exact List.Pairwise.imp (fun h => by omega) (List.pairwise_lt_range (n := n))
theorem unc_asc (cs : List Int) (gs : List Gp) : (rUnc cs gs).Pairwise (· < ·) := (posts_asc _).filter _
theorem cro_asc (cs : List Int) (gs : List Gp) : (rCro cs gs).Pairwise (· < ·) := by rw [cro_list]; exact (posts_asc _).filter _
theorem posts_len (n : Nat) (f : Int → Bool) : (((List.range n).map (fun (k : Nat) => (k : Int))).filter f).length ≤ n := by
  have := List.length_filter_le f ((List.range n).map (fun (k : Nat) => (k : Int)))
  rw [List.length_map, List.length_range] at this
  exact this
theorem unc_len (cs : List Int) (gs : List Gp) : (rUnc cs gs).length ≤ cs.length := posts_len ..
theorem cro_len (cs : List Int) (gs : List Gp) : (rCro cs gs).length ≤ cs.length := by rw [cro_list]; exact posts_len ..
/-- whom a choice lets go: the groups whose first post is chosen and whose reserve isn't -/
def outV (C R : List Int) (cs : List Int) (gs : List Gp) (g : Gp) : Bool := inV (optV g.1 0) (C.map V.int) && !inV (optV g.1 (resC cs gs g)) (R.map V.int)
def escOf (C R : List Int) (cs : List Int) (gs hs : List Gp) : Int := (hs.map fun g => if outV C R cs gs g = true then g.2 else 0).sum
def sfOf (C R : List Int) (cs : List Int) (gs : List Gp) : Int :=
  (C.map fun p => - spOf cs gs p).sum - escOf C R cs gs gs - (R.map (spOf cs gs)).sum
theorem esc_snoc (C R : List Int) (cs : List Int) (gs : List Gp) {k : Nat} {g : Gp} (h : gs[k]? = some g) : escOf C R cs gs (gs.take (k + 1)) = escOf C R cs gs (gs.take k) + if outV C R cs gs g = true then g.2 else 0 := by
  unfold escOf
  rw [take_snoc h, List.map_append, List.sum_append]
  simp
theorem non_in (cl : List Int) : inV .non (cl.map V.int) = false := by
  unfold inV
  rw [List.any_eq_false]
  intro v hv
  obtain ⟨i, _, rfl⟩ := List.mem_map.mp hv
  simp [eqV]
theorem flat_opt (ps : List Int) (k : Nat) : flatV (optV ps k) = true := by unfold optV; split <;> rfl
theorem res_min {ps cl : List Int} {m : Int} (hm : m ∈ ((List.range' 1 (ps.length - 1)).filter (isFree ps cl)).map (fun (k : Nat) => (k : Int)) ++ [(ps.length : Int)])
    (hl : ∀ y ∈ ((List.range' 1 (ps.length - 1)).filter (isFree ps cl)).map (fun (k : Nat) => (k : Int)) ++ [(ps.length : Int)], m ≤ y) : m = (resOf ps cl : Int) := by
  have hR : ((resOf ps cl : Nat) : Int) ∈ ((List.range' 1 (ps.length - 1)).filter (isFree ps cl)).map (fun (k : Nat) => (k : Int)) ++ [(ps.length : Int)] := by
    unfold resOf
    cases e : (List.range' 1 (ps.length - 1)).find? (isFree ps cl) with
    | none => simp
    | some x =>
      refine List.mem_append_left _ (List.mem_map.mpr ⟨x, List.mem_filter.mpr ⟨List.mem_of_find?_eq_some e, List.find?_some e⟩, rfl⟩)
  have h1 := hl _ hR
  refine Int.le_antisymm h1 ?_
  rcases List.mem_append.mp hm with h | h
  · obtain ⟨k, hk, rfl⟩ := List.mem_map.mp h
    obtain ⟨k1, k2⟩ := List.mem_filter.mp hk
    unfold resOf
    cases e : (List.range' 1 (ps.length - 1)).find? (isFree ps cl) with
    | none => exact absurd k2 (by have := List.find?_eq_none.mp e k k1; exact this)
    | some x =>
      obtain ⟨p1, as, bs, e1, e2⟩ := List.find?_eq_some_iff_append.mp e
      have hkm : k ∈ as ++ x :: bs := e1 ▸ k1
      rcases List.mem_append.mp hkm with h | h
      · have := e2 k h; rw [k2] at this; simp at this
      · rcases List.mem_cons.mp h with rfl | h
        · exact Int.le_refl _
        · have pw : (as ++ x :: bs).Pairwise (· < ·) := by rw [← e1]; exact List.pairwise_lt_range' ..
          have := (List.pairwise_cons.mp (List.pairwise_append.mp pw).2.1).1 k h
          show (x : Int) ≤ k
          omega
  · simp only [List.mem_singleton] at h
    rw [h]
    have := resOf_le ps cl
    omega
theorem cutFrom (xs : List V) (n : Nat) : cutV xs (some (n : Int)) none = xs.drop n := by
  unfold cutV
  rw [HT.sIx_nat, HT.sIx_none]
  by_cases h : n ≤ xs.length
  · rw [Nat.min_eq_left h, List.take_of_length_le (by rw [List.length_drop]; exact Nat.le_refl _)]
  · rw [Nat.min_eq_right (by omega), List.drop_eq_nil_of_le (Nat.le_refl _), List.drop_eq_nil_of_le (by omega)]; simp
theorem slAny {K : PySem.W.Frag} {H : Hp} {a : Addr} {xs : List V} {lo hi : Option Int} (hP : SqT K H a xs) {Q : VK} (h : ∀ (H' : Hp) (b : Addr), Same H H' → SqT K H' b (cutV xs lo hi) → Q (.ref b) H') : rSlA K (.ref a) lo hi H Q := by
  refine ⟨a, _, rfl, hP, fun hw => ?_, fun _ p np => ?_⟩
  · refine h H a (Same.refl _) ?_
    have e : cutV xs lo hi = xs := by
      unfold cutV
      rw [hw.1, hw.2, List.drop_zero, Nat.sub_zero, List.take_length]
    rw [e]; exact hP
  · exact h _ p (sameNew np) (SqT.of upd_same)
theorem fm_posts (l : List Nat) (f : Int → Bool) : l.filterMap (fun (k : Nat) => if f (k : Int) = true then some (V.int (k : Int)) else none) = ((l.map (fun (k : Nat) => (k : Int))).filter f).map V.int := by
  induction l with
  | nil => rfl
  | cons a l ih =>
    rw [List.filterMap_cons, List.map_cons, List.filter_cons]
    cases h : f (a : Int)
    · simp only [Bool.false_eq_true, if_false]; exact ih
    · simp only [if_true, List.map_cons]; rw [ih]
def chB (ps : List Int) (d : PyData) : Bool := match d with | .int i => ps.contains i | _ => false
theorem chB_ints : ∀ {ds : List PyData} {ps : List Int}, (ds.map (chB ps)).all id = true ↔ ∃ xs, intsAll ds = some xs ∧ xs.all ps.contains = true
  | [], ps => by simp [intsAll]
  | d :: ds, ps => by
    rw [List.map_cons, List.all_cons, Bool.and_eq_true, chB_ints (ds := ds)]
    cases d with
    | int i =>
      simp only [id, chB, intsAll, Option.map_eq_some_iff]
      constructor
      · rintro ⟨h, xs, e, hx⟩
        exact ⟨i :: xs, ⟨xs, e, rfl⟩, by rw [List.all_cons, h, hx]; rfl⟩
      · rintro ⟨_, ⟨xs, e, rfl⟩, hx⟩
        rw [List.all_cons, Bool.and_eq_true] at hx
        exact ⟨hx.1, xs, e, hx.2⟩
    | _ => simp [chB, intsAll]
theorem rtB_not {ps : List Int} {d : PyData} (h : tupOfD 0 ps.length d = false) : rtB ps d = false := by
  unfold rtB
  cases d with
  | tuple ds =>
    simp only [intsOf]
    cases e : intsAll ds with
    | none => rfl
    | some xs =>
      have el := congrArg List.length (intsAll_eq e)
      rw [List.length_map] at el
      simp only [tupOfD] at h
      have h := of_decide_eq_false h
      simp only
      rw [Bool.and_eq_false_iff]
      by_cases h1 : xs.all ps.contains = true
      · refine .inr (Bool.eq_false_iff.mpr fun h2 => h ⟨by omega, ?_⟩)
        have := asc_len h2 h1
        omega
      · exact .inl (Bool.eq_false_iff.mpr h1)
  | _ => rfl
end Pv

namespace Pv
open PySem PySem.Spec PyProof.Rows L2
abbrev sUp : Stmt := topS 18
theorem scUp : FnScope ["instance", "claimed", "post"] ["instance"] (defScope sUp) := ⟨rfl, rfl, rfl, by decide +kernel, rfl, by decide +kernel, by decide +kernel⟩
abbrev sIc : Stmt := topS 17
theorem scIc : FnScope ["value", "posts", "post", "low", "high"] ["value", "posts"] (defScope sIc) := ⟨rfl, rfl, rfl, by decide +kernel, rfl, by decide +kernel, by decide +kernel⟩
abbrev sEc : Stmt := topS 19
theorem scEc : FnScope ["instance", "crowded", "reserves", "total", "group", "posts", "count"] ["instance", "crowded", "reserves"] (defScope sEc) := ⟨rfl, rfl, rfl, by decide +kernel, rfl, by decide +kernel, by decide +kernel⟩
theorem dqInts {K : PySem.W.Frag} {st r : Addr} {H : Hp} : ∀ {ns : List Int} {vs : List V}, DqAll K st r H vs (ns.map PyData.int) → vs = ns.map V.int
  | [], _, h => by cases h; rfl
  | n :: ns, _, h => by
    cases h with
    | cons h1 h2 => cases h1; rw [dqInts h2]; rfl
section
variable {P : Program} {w : World} {K : PySem.W.Frag} {mg : Str → Option Value} {base : Heap}
def spUp (K : PySem.W.Frag) : Sp := spVec K rUnc
set_option maxHeartbeats 8000000 in
theorem ok_Up {f fCl : Addr} {fd fdCl : FuncData} (F : Fun K "unclaimed_posts" "unclaimed_posts" sUp f fd)
    (FCl : Fun K "claimed_posts" "claimed_posts" sCla fCl fdCl) (bCl : Binds K fdCl ["instance"] []) (gCl : mg "claimed_posts" = some (.ref fCl)) (GCl : FnOk P w K mg base CX0 3 fCl fdCl ["instance"] (spVec K rCla))
    (m_len : mg "len" = none) (m_range : mg "range" = none) (m_tuple : mg "tuple" = none) :
    FnOk P w K mg base CX0 4 f fd ["instance"] (spUp K) := by
  refine F.ok scUp (fun vs H Q E h => ?_) (fun cdv A outer s H vs Q E hr h => ?_)
  · obtain ⟨i, cs, gs, rfl, _⟩ := h; rfl
  · obtain ⟨i, cs, gs, rfl, hI, ok, q⟩ := h
    refine ⟨_, pss_cons (ps_set (i := 1) scUp.nd rfl (.inr rfl) (pe_call GCl (hr.mono (by omega)) (by rfl) gCl FCl.kp bCl .nil pass0 (pa_cons (pv 0) pa_nil)))
      (pss_one (ps_ret (pe_callTy call_tupQ (by rfl) m_tuple (by decide +kernel) (pa_cons (pe_lc (own := [("post", 2)]) (g := gName 2) (tt := tTest (tOp (rIn K true) (tVar 2) (tVar 1))) (te := tVar 2) rfl scUp.nd (pi_range1 (by rfl) m_range (pa_cons (pe_callB call_lenQ (by rfl) m_len PySem.boot_len (pa_cons (pe_ix ix_tup (pv 0) (pe_int) (fun _ _ => rfl)) pa_nil)) pa_nil)) (blkOk_by (N := ["instance", "claimed", "post"]) (sc := defScope sUp) (by decide +kernel)) (fun _ _ _ _ _ => pg_name (i := 2) scUp.nd rfl (.inl rfl)) (fun _ _ _ _ _ => pts_one (pt_cmpR op_notIn_seq (pv 2) (pv 1) (by rfl))) (fun _ _ _ _ _ => pv 2)) pa_nil)))), ?_⟩
    obtain ⟨_, ca, ga, xs, e, hi, hc, hgt, hgs⟩ := inst_open hI
    cases e
    have h6 := ok.c6
    refine ⟨.ref i, rfl, i, cs, gs, rfl, hI, ok, fun H1 cl s1 hcl => ?_⟩
    have hC := sq_dI hcl
    refine ⟨.ref i, rfl, i, _, 0, .ref ca, rfl, rfl, sqS s1 hi, atI_nat (j := 0) rfl, ca, _, rfl, .inr (sqS s1 hc), _, rfl, by omega, by rw [List.length_map]; omega, fun D nD => lc_it (walk_range (lo := 0) (n := _))
      (LcP H1 D (List.range cs.length) (fun k => if decide (0 < spOf cs gs (k : Int)) = true then some (.int (k : Int)) else none)) (.start nD) (fun _ _ _ _ => trivial) ?_ ?_⟩
    · rintro j x H3 H4 hj hL ⟨rfl, rfl⟩
      rw [List.length_map] at hj
      have hj : j < cs.length := by omega
      have e0 : (0 : Int) + (j : Nat) = (j : Int) := by omega
      dsimp only
      rw [e0]
      have hm := cla_mem (cs := cs) (gs := gs) (p := (j : Int)) ⟨by omega, by omega⟩
      refine ⟨rfl, .int (j : Nat), rfl, .ref cl, rfl, cl, _, rfl, .inr (sqS hL.1 hC), rfl, flat_ints _, _, rfl, ite2 (fun h1 => ?_) (fun h1 => ?_)⟩
      · rw [if_pos rfl, inV_ints, hm] at h1
        have h1 : 0 < spOf cs gs (j : Int) := by simpa using h1
        exact ⟨_, rfl, hL.yes nD (Same.refl _) (List.getElem?_range hj) (if_pos (decide_eq_true h1)) (by omega)⟩
      · rw [if_pos rfl, inV_ints, hm] at h1
        have h1 : ¬ 0 < spOf cs gs (j : Int) := by simpa using h1
        exact hL.no (Same.refl _) (List.getElem?_range hj) (if_neg (by simpa using h1))
    · rintro H3 hL
      have e3 := hL.done (by rw [List.length_range, List.length_map]; omega)
      rw [fm_posts _ (fun p => decide (0 < spOf cs gs p))] at e3
      exact ⟨D, _, rfl, .inl ⟨SqL.of e3, fun p np => q _ p ((s1.trans hL.1).trans (sameNew np)) (dI_sq (SqT.of upd_same))⟩⟩
def spIc (K : PySem.W.Frag) : Sp := fun vs H Q _ => ∃ (st r : Addr) (v : V) (d : PyData) (t : Addr) (ps : List Int), vs = [v, .ref t] ∧ Dq K st r H v d ∧ SqT K H t (ps.map V.int) ∧ ps.length ≤ 100 ∧ ∀ H', Same H H' → Q (.bl (rtB ps d)) H'
set_option maxHeartbeats 8000000 in
theorem ok_Ic {f fTo fWh : Addr} {fd fdTo fdWh : FuncData} (F : Fun K "is_choice" "is_choice" sIc f fd)
    (FTo : Fun K "is_tuple_of" "is_tuple_of" sTupOf fTo fdTo) (bTo : Binds K fdTo ["value", "least", "most"] []) (gTo : mg "is_tuple_of" = some (.ref fTo)) (GTo : FnOk P w K mg base CX0 1 fTo fdTo ["value", "least", "most"] (spTupOf K))
    (FWh : Fun K "is_whole" "is_whole" sWhole fWh fdWh) (bWh : Binds K fdWh ["value"] []) (gWh : mg "is_whole" = some (.ref fWh)) (GWh : FnOk P w K mg base CX0 1 fWh fdWh ["value"] (spWhole K))
    (m_len : mg "len" = none) (m_all : mg "all" = none) (m_zip : mg "zip" = none) :
    FnOk P w K mg base CX0 2 f fd ["value", "posts"] (spIc K) := by
  refine F.ok scIc (fun vs H Q E h => ?_) (fun cdv A outer s H vs Q E hr h => ?_)
  · obtain ⟨st, r, v, d, t, ps, rfl, _⟩ := h; rfl
  · obtain ⟨st, r, v, d, t, ps, rfl, hD, hT, lps, q⟩ := h
    refine ⟨_, pss_cons (ps_if (pt_not (pt_val (pe_call GTo (hr.mono (by omega)) (by rfl) gTo FTo.kp bTo .nil pass0 (pa_cons (pv 0) (pa_cons (pe_int) (pa_cons (pe_callB call_lenQ (by rfl) m_len PySem.boot_len (pa_cons (pv 1) pa_nil)) pa_nil))))))
        (pss_one (ps_ret (pe_bl))) pss_nil)
      (pss_cons (ps_if (pt_not (pt_val (pe_callB (cr_all rfl) (by rfl) m_all (by decide +kernel) (pa_cons (pe_lc (own := [("post", 2)]) (g := gName 2) (tt := tYes) (te := tAndV (tCall (spWhole K) [] E0 (tCons (tVar 2) tNil)) (tOp (rIn K false) (tVar 2) (tVar 1))) rfl scIc.nd (pi_tup (pv 0)) (blkOk_by (N := ["value", "posts", "post", "low", "high"]) (sc := defScope sIc) (by decide +kernel)) (fun _ _ _ _ _ => pg_name (i := 2) scIc.nd rfl (.inl rfl)) (fun _ _ _ _ _ => pts_nil) (fun _ _ _ _ _ => pe_and (pe_call GWh (hr.mono (by omega)) (by rfl) gWh FWh.kp bWh .nil pass0 (pa_cons (pv 2) pa_nil)) (pe_one (pe_cmpR op_in_seq (pv 2) (pv 1) (by rfl))))) pa_nil))))
        (pss_one (ps_ret (pe_bl))) pss_nil)
      (pss_one (ps_ret (pe_callB (cr_all rfl) (by rfl) m_all (by decide +kernel) (pa_cons (pe_lc (own := [("low", 3), ("high", 4)]) (g := gTup K 2 (gCons (gName 3) (gCons (gName 4) gNil))) (tt := tYes) (te := tOp (rI0 fun i j => .bl (decide (i < j))) (tVar 3) (tVar 4)) rfl scIc.nd (RZ.pi_zipA (by rfl) m_zip (pa_cons (pv 0) (pa_cons (pe_slice sl_tupA (pv 0) (po_some (pe_int)) po_none) pa_nil))) (blkOk_by (N := ["value", "posts", "post", "low", "high"]) (sc := defScope sIc) (by decide +kernel)) (fun _ _ _ _ _ => pg_tup rfl (pgs_cons (pg_name (i := 3) scIc.nd rfl (.inl rfl)) (pgs_cons (pg_name (i := 4) scIc.nd rfl (.inl rfl)) pgs_nil))) (fun _ _ _ _ _ => pts_nil) (fun _ _ _ _ _ => pe_cmpR op_lt (pv 3) (pv 4) (nomark _))) pa_nil))))), ?_⟩
    refine ⟨v, rfl, .ref t, rfl, t, _, rfl, .inr hT, st, r, v, d, 0, _, rfl, hD, _, rfl, ?_⟩
    rw [List.length_map]
    refine ite2 (fun h1 => ?_) (fun h1 => ?_)
    · rw [← rtB_not (by simpa using h1)]
      exact q _ (Same.refl _)
    have h1 : tupOfD 0 ps.length d = true := by simpa using h1
    obtain ⟨ds, rfl⟩ : ∃ ds, d = .tuple ds := by cases d <;> first | exact ⟨_, rfl⟩ | cases h1
    have hlen := of_decide_eq_true h1
    obtain ⟨a, xs, rfl, hA, hX⟩ : ∃ a xs, v = .ref a ∧ SqT K H a xs ∧ DqAll K st r H xs ds := by cases hD with | tup h1 h2 => exact ⟨_, _, rfl, h1, h2⟩
    have lxs : xs.length = ds.length := hX.len
    refine ⟨.ref a, rfl, a, rfl, ⟨_, hA⟩, fun D nD => lc_it (walk_tup (K := K) (a := a) (xs := xs)) (LcP H D ds (fun d => some (.bl (chB ps d)))) (.start nD) (fun j H3 _ h => sqS h.1 hA) ?_ ?_⟩
    · rintro j x H3 H4 hj hL ⟨rfl, hx⟩
      have hx : xs[j]? = some x := hx
      obtain ⟨d, hd, hxd⟩ := hX.at hx
      have hxd := Dq.lasts (.of hL.1) hxd
      have hjs : j ≤ 1000000 := by omega
      refine ⟨rfl, x, rfl, st, r, x, d, rfl, hxd, _, rfl, ite2 (fun h2 => ?_) (fun h2 => ?_)⟩
      · obtain ⟨i, rfl⟩ : ∃ i, d = .int i := by cases d <;> first | exact ⟨_, rfl⟩ | cases h2
        cases hxd
        refine ⟨.int i, rfl, .ref t, rfl, t, _, rfl, .inr (sqS hL.1 hT), rfl, flat_ints _, ?_⟩
        rw [if_neg (by decide), inV_ints]
        exact hL.yes nD (Same.refl _) hd rfl hjs
      · refine hL.yes nD (Same.refl _) hd ?_ hjs
        cases d with
        | int i => exact absurd rfl h2
        | _ => rfl
    rintro H3 hL
    have e3 := hL.done (by omega)
    rw [fm_map] at e3
    have s3 := hL.1
    refine ⟨D, ds.map (chB ps), rfl, SqL.of (by rw [e3, List.map_map]; rfl), _, rfl, ite2 (fun h2 => ?_) (fun h2 => ?_)⟩
    · have h2 : (ds.map (chB ps)).all id = false := by simpa using h2
      have : rtB ps (.tuple ds) = false := by
        unfold rtB
        simp only [intsOf]
        cases e : intsAll ds with
        | none => rfl
        | some xs =>
          simp only
          rw [Bool.and_eq_false_iff]
          refine .inl (Bool.eq_false_iff.mpr fun h => ?_)
          rw [chB_ints.mpr ⟨xs, e, h⟩] at h2
          cases h2
      rw [← this]
      exact q _ s3
    have h2 : (ds.map (chB ps)).all id = true := by simpa using h2
    obtain ⟨zs, ez, hz⟩ := chB_ints.mp h2
    have hrt : rtB ps (.tuple ds) = ascB zs := by unfold rtB; simp only [intsOf]; rw [ez]; simp only; rw [hz]; rfl
    have edz := intsAll_eq ez
    subst edz
    obtain rfl : xs = zs.map V.int := dqInts hX
    have hlz : zs.length ≤ 100 := by simp only [List.length_map] at hlen; omega
    rw [hrt] at q
    refine ⟨.ref a, rfl, .ref a, rfl, 1, rfl, ?_⟩
    dsimp only [tNoPart]
    refine slAny (K := K) (lo := some 1) (hi := none) (sqS s3 hA) (fun H4 b s4 hB => ?_)
    rw [show cutV (zs.map V.int) (some 1) none = (zs.map V.int).drop 1 from cutFrom _ 1] at hB
    have hA4 := sqS (s3.trans s4) hA
    refine ⟨a, b, _, _, rfl, .inr ⟨hA4, hB, fun D2 nD2 => lc_it (walk_zipT (K := K) (a := a) (b := b) rfl) (LcP H4 D2 (List.zip zs (zs.drop 1)) (fun z => some (.bl (decide (z.1 < z.2))))) (.start nD2) (fun j H5 _ h => ⟨sqS h.1 hA4, sqS h.1 hB⟩) ?_ ?_⟩⟩
    · rintro j x H5 H6 hj hL2 ⟨T, x, y, rfl, nT, rfl, ex, ey⟩
      have ex : (zs.map V.int)[j]? = some x := ex
      have ey : ((zs.map V.int).drop 1)[j]? = some y := ey
      rw [List.getElem?_map] at ex
      obtain ⟨z1, hz1, rfl⟩ := Option.map_eq_some_iff.mp ex
      rw [← List.map_drop, List.getElem?_map] at ey
      obtain ⟨z2, hz2, rfl⟩ := Option.map_eq_some_iff.mp ey
      have hzz : (List.zip zs (zs.drop 1))[j]? = some (z1, z2) := List.getElem?_zip_eq_some.mpr ⟨hz1, hz2⟩
      have hjl := (List.getElem?_eq_some_iff.mp hz1).1
      refine ⟨T, _, rfl, SqT.of upd_same, rfl, _, _, rfl, _, _, rfl, rfl, rfl, .int z1, rfl, .int z2, rfl, _, _, rfl, rfl, ?_⟩
      exact hL2.yes nD2 (sameNew nT) hzz rfl (by omega)
    · rintro H5 hL2
      have e5 := hL2.done (by simp)
      rw [fm_map] at e5
      refine ⟨D2, (List.zip zs (zs.drop 1)).map (fun z => decide (z.1 < z.2)), rfl, SqL.of (by rw [e5, List.map_map]; rfl), ?_⟩
      have : ((List.zip zs (zs.drop 1)).map (fun z => decide (z.1 < z.2))).all id = ascB zs := by
        rw [← asc_zip, List.zip_eq_zipWith, List.map_zipWith]
      rw [this]
      exact q _ (s3.trans (s4.trans hL2.1))
def spEc (K : PySem.W.Frag) : Sp := fun vs H Q _ => ∃ (i a b : Addr) (cs : List Int) (gs : List Gp) (C R : List Int), vs = [.ref i, .ref a, .ref b] ∧ Dp K H (.ref i) (dInst cs gs) ∧ InsOk cs gs ∧ SqT K H a (C.map V.int) ∧ SqT K H b (R.map V.int) ∧
  ∀ H', Same H H' → Q (.int (escOf C R cs gs gs)) H'
set_option maxHeartbeats 8000000 in
theorem ok_Ec {f fRe fOp : Addr} {fd fdRe fdOp : FuncData} (F : Fun K "escape_count" "escape_count" sEc f fd)
    (FRe : Fun K "reserve_option" "reserve_option" sRes fRe fdRe) (bRe : Binds K fdRe ["instance", "group"] []) (gRe : mg "reserve_option" = some (.ref fRe)) (GRe : FnOk P w K mg base CX0 4 fRe fdRe ["instance", "group"] (spRes K))
    (FOp : Fun K "option_post" "option_post" sOpt fOp fdOp) (bOp : Binds K fdOp ["instance", "group", "option"] []) (gOp : mg "option_post" = some (.ref fOp)) (GOp : FnOk P w K mg base CX0 1 fOp fdOp ["instance", "group", "option"] (spOpt K))
    (m_enumerate : mg "enumerate" = none) (m_len : mg "len" = none) :
    FnOk P w K mg base CX0 5 f fd ["instance", "crowded", "reserves"] (spEc K) := by
  refine F.ok scEc (fun vs H Q E h => ?_) (fun cdv A outer s H vs Q E hr h => ?_)
  · obtain ⟨i, a, b, cs, gs, C, R, rfl, _⟩ := h; rfl
  · obtain ⟨i, a, b, cs, gs, C, R, rfl, hI, ok, hA, hB, q⟩ := h
    refine ⟨_, pss_cons (ps_set (i := 3) scEc.nd rfl (.inl rfl) (pe_int))
      (pss_cons (ps_for PassesOwn.never rfl (pi_enumT (by rfl) m_enumerate (pa_cons (pe_ix ix_tup (pv 0) (pe_int) (fun _ _ => rfl)) pa_nil)) (pg_tup rfl (pgs_cons (pg_name (i := 4) scEc.nd rfl (.inl rfl)) (pgs_cons (pg_tup rfl (pgs_cons (pg_name (i := 5) scEc.nd rfl (.inl rfl)) (pgs_cons (pg_name (i := 6) scEc.nd rfl (.inl rfl)) pgs_nil))) pgs_nil)))
        (pss_one (ps_if (PW.pt (pw_and (pt_cmpR op_gt (pe_callB call_lenQ (by rfl) m_len PySem.boot_len (pa_cons (pv 5) pa_nil)) (pe_int) (nomark _)) (pw_and1 (pt_cmpR op_in_seq (pe_ix ix_tup (pv 5) (pe_int) (fun _ _ => rfl)) (pv 1) (by rfl)))))
          (pss_one (ps_if (pt_cmpR op_notIn_seq (pe_call GOp (hr.mono (by omega)) (by rfl) gOp FOp.kp bOp .nil pass0 (pa_cons (pv 0) (pa_cons (pv 4) (pa_cons (pe_call GRe (hr.mono (by omega)) (by rfl) gRe FRe.kp bRe .nil pass0 (pa_cons (pv 0) (pa_cons (pv 4) pa_nil))) pa_nil)))) (pv 2) (by rfl))
            (pss_one (ps_aug (i := 3) scEc.nd rfl (.inl rfl) (pv 6) ip_add)) pss_nil)) pss_nil)))
      (pss_one (ps_ret (pv 3)))), ?_⟩
    obtain ⟨_, ca, ga, xs, e, hi, hc, hgt, hgs⟩ := inst_open hI
    cases e
    have h10 := ok.g10
    have lxs : xs.length = gs.length := by have := DpAll.len hgs; rwa [List.length_map] at this
    refine ⟨.ref i, rfl, i, _, 1, .ref ga, rfl, rfl, hi, atI_nat (j := 1) rfl, ga, _, rfl, hgt, for_it (walk_enumT (K := K) (a := ga) (xs := xs))
      (fun j σ H3 => ∃ (y4 y5 y6 : Option V), σ = [some (.ref i), some (.ref a), some (.ref b), some (.int (escOf C R cs gs (gs.take j))), y4, y5, y6] ∧ Same H H3)
      ⟨none, none, none, rfl, Same.refl _⟩ (fun j σ H3 _ h => by obtain ⟨_, _, _, _, s3⟩ := h; exact sqS s3 hgt) ?_ ?_⟩
    · rintro j v σ H3 H4 hlt ⟨y4, y5, y6, rfl, s3⟩ ⟨T, x, y, rfl, nT, rfl, ex, ey⟩
      have hj : j < gs.length := by omega
      have hg : gs[j]? = some gs[j] := List.getElem?_eq_getElem hj
      obtain ⟨gA, pA, hx, hG, hP⟩ := grp_at hgs hg
      cases ex
      have ey : xs[j]? = some y := ey
      rw [hx] at ey
      cases ey
      have hgl := (ok.gp gs[j] (List.getElem_mem hj)).1
      have sT := s3.trans (sameNew (o := .tup [.int (j : Nat), .ref gA]) nT)
      have hE := esc_snoc C R cs gs hg
      refine ⟨T, _, rfl, SqT.of upd_same, rfl, _, _, rfl, _, _, rfl, gA, _, rfl, sqS sT hG, rfl, _, _, rfl, _, _, rfl, rfl, rfl, ?_⟩
      generalize upd H3 T (.tup [.int (j : Nat), .ref gA]) = H4 at sT ⊢
      have hP4 := sqS sT hP
      refine ⟨.ref pA, rfl, pA, _, rfl, .inr hP4, _, _, rfl, rfl, _, rfl, ?_⟩
      have no : ∀ Hn, Same H Hn → outV C R cs gs gs[j] = false → ∃ (y4 y5 y6 : Option V), [some (V.ref i), some (.ref a), some (.ref b), some (.int (escOf C R cs gs (gs.take j))), some (.int (j : Nat)), some (.ref pA), some (.int gs[j].2)] = [some (.ref i), some (.ref a), some (.ref b), some (.int (escOf C R cs gs (gs.take (j + 1)))), y4, y5, y6] ∧ Same H Hn := by
        intro Hn sn ho
        rw [hE, ho, if_neg (by decide), Int.add_zero]
        exact ⟨_, _, _, rfl, sn⟩
      by_cases hne : gs[j].1 = []
      · rw [hne]
        refine iteF (iteF ?_)
        refine no _ sT ?_
        unfold outV
        rw [inV_opt, hne]; rfl
      obtain ⟨pp, ps, hps⟩ : ∃ pp ps, gs[j].1 = pp :: ps := by
        cases hgg : gs[j].1 with
        | nil => exact absurd hgg hne
        | cons a b => exact ⟨a, b, rfl⟩
      rw [decide_eq_true (show (0 : Int) < ((gs[j].1.map V.int).length : Int) by rw [hps]; simp)]
      refine iteT ?_
      refine ⟨.ref pA, rfl, pA, _, _, .int pp, rfl, rfl, hP4, atI_nat (j := 0) (by rw [hps]; rfl), .ref a, rfl, a, _, rfl, .inr (sqS sT hA), rfl, flat_ints _, _, rfl, ?_⟩
      have ho : outV C R cs gs gs[j] = (C.contains pp && !inV (optV gs[j].1 (resC cs gs gs[j])) (R.map V.int)) := by
        unfold outV
        rw [inV_opt, hps]
      rw [if_neg (by decide), inV_ints]
      refine ite2 (fun h1 => ?_) (fun h1 => ?_)
      · have hI4 := (TupK.of sT).dp _ _ (to_dInst _ _) hI
        refine ⟨.ref i, rfl, .int (j : Nat), rfl, .ref i, rfl, .int (j : Nat), rfl, i, j, cs, gs, gs[j], rfl, hI4, ok, hg, fun H5 s5 => ?_⟩
        refine ⟨i, j, resC cs gs gs[j], cs, gs, gs[j], rfl, (TupK.of s5).dp _ _ (to_dInst _ _) hI4, hg, resOf_le _ _, .ref b, rfl, b, _, rfl, .inr (sqS (sT.trans s5) hB), flat_opt _ _, flat_ints _, _, rfl, ite2 (fun h2 => ?_) (fun h2 => ?_)⟩
        · rw [if_pos rfl] at h2
          refine ⟨_, rfl, .int gs[j].2, rfl, _, _, rfl, rfl, ?_⟩
          have ho' : outV C R cs gs gs[j] = true := by rw [ho, h1, h2]; rfl
          rw [hE, ho', if_pos rfl]
          exact ⟨_, _, _, rfl, sT.trans s5⟩
        · rw [if_pos rfl] at h2
          exact no _ (sT.trans s5) (by rw [ho, h1]; simpa using h2)
      · exact no _ sT (by rw [ho, Bool.eq_false_iff.mpr h1]; rfl)
    · rintro σ H3 ⟨y4, y5, y6, rfl, s3⟩
      have := q _ s3
      rw [lxs, List.take_length]
      exact ⟨_, rfl, this⟩
end
end Pv

namespace Pv
open PySem PySem.Spec PyProof.Rows L2
abbrev sFs : Stmt := topS 28
theorem scFs : FnScope ["_law_instance", "_law_demand", "_law_posts", "_law_count", "_law_rows", "_law_free", "_law_k"] ["_law_instance"] (defScope sFs) := ⟨rfl, rfl, rfl, by decide +kernel, rfl, by decide +kernel, by decide +kernel⟩
abbrev sSh : Stmt := topS 29
theorem scSh : FnScope ["_law_instance", "_law_crowded", "_law_reserves", "_law_demand", "_law_rows", "_law_found", "_law_k", "_law_posts", "_law_count", "_law_first", "_law_reserve", "_law_post"] ["_law_instance", "_law_crowded", "_law_reserves"] (defScope sSh) := ⟨rfl, rfl, rfl, by decide +kernel, rfl, by decide +kernel, by decide +kernel⟩
abbrev sSi : Stmt := topS 31
theorem scSi : FnScope ["_law_instance", "_law_demand", "_law_rows", "_law_posts", "_law_crowded", "_law_post"] ["_law_instance"] (defScope sSi) := ⟨rfl, rfl, rfl, by decide +kernel, rfl, by decide +kernel, by decide +kernel⟩
def FcV (K : PySem.W.Frag) (cs : List Int) (gs : List Gp) (H : Hp) (v : V) (g : Gp) : Prop := ∃ T, v = .ref T ∧ SqT K H T [optV g.1 0, .int (resC cs gs g : Nat)]
theorem FcV.tk {K : PySem.W.Frag} {cs : List Int} {gs : List Gp} {H H' : Hp} {v : V} {g : Gp} (h : FcV K cs gs H v g) (t : TupK H H') : FcV K cs gs H' v g := by obtain ⟨T, e, h⟩ := h; exact ⟨T, e, t.sq h⟩
theorem freeS {H H' : Hp} {a : Addr} (s : Same H H') (n : H' a = none) : H a = none := by
  cases e : H a with
  | none => rfl
  | some o => have := s _ _ e; rw [n] at this; cases this
theorem cat_at {ps : List Int} {k : Nat} (h : k ≤ ps.length) : (ps.map V.int ++ [V.non])[k]? = some (optV ps k) := by
  unfold optV
  rcases Nat.lt_or_eq_of_le h with h | h
  · rw [List.getElem?_append_left (by rw [List.length_map]; exact h), List.getElem?_map, List.getElem?_eq_getElem h]; rfl
  · subst h
    rw [List.getElem?_append_right (by rw [List.length_map]; exact Nat.le_refl _)]
    simp
theorem fm_nat (l : List Nat) (f : Nat → Bool) : l.filterMap (fun (k : Nat) => if f k = true then some (V.int (k : Int)) else none) = ((l.filter f).map (fun (k : Nat) => (k : Int))).map V.int := by
  induction l with
  | nil => rfl
  | cons a l ih =>
    rw [List.filterMap_cons, List.filter_cons]
    cases h : f a
    · simp only [Bool.false_eq_true, if_false]; exact ih
    · simp only [if_true, List.map_cons]; rw [ih]
section
variable {P : Program} {w : World} {K : PySem.W.Frag} {mg : Str → Option Value} {base : Heap}
def spFs (K : PySem.W.Frag) : Sp := fun vs H Q _ => ∃ (i : Addr) (cs : List Int) (gs : List Gp), vs = [.ref i] ∧ Dp K H (.ref i) (dInst cs gs) ∧ InsOk cs gs ∧
  ∀ H' p D R ws, Same H H' → SqT K H' p [.ref D, .ref R] → H' D = some (.lst ((rDem cs gs).map V.int)) → H' R = some (.lst ws) → Rl (FcV K cs gs H') ws gs → Q (.ref p) H'
set_option maxHeartbeats 8000000 in
theorem ok_Fs {f : Addr} {fd : FuncData} (F : Fun K "_law_facts" "_law_facts" sFs f fd)
    (m_len : mg "len" = none) (m_range : mg "range" = none) (m_min : mg "min" = none) :
    FnOk P w K mg base CX0 1 f fd ["_law_instance"] (spFs K) := by
  refine F.ok scFs (fun vs H Q E h => ?_) (fun cdv A outer s H vs Q E hr h => ?_)
  · obtain ⟨i, cs, gs, rfl, _⟩ := h; rfl
  · obtain ⟨i, cs, gs, rfl, hI, ok, q⟩ := h
    have hu64 : (A.deeper (envOfC "_law_facts" (defScope sFs) s.heap.objs.size f cdv)).units + 64 < cLine := by have := hr.un; omega
    have hu0 : (A.deeper (envOfC "_law_facts" (defScope sFs) s.heap.objs.size f cdv)).units < cLine := by have := hr.un; omega
    refine ⟨_, pss_cons (ps_set (i := 1) scFs.nd rfl (.inr rfl) (pe_op op_rep (pe_lst (pa_cons (pe_int) pa_nil)) (pe_callB call_lenQ (by rfl) m_len PySem.boot_len (pa_cons (pe_ix ix_tup (pv 0) (pe_int) (fun _ _ => rfl)) pa_nil))))
      (pss_cons (ps_for PassesOwn.never rfl (pi_tup (pe_ix ix_tup (pv 0) (pe_int) (fun _ _ => rfl))) (pg_tup rfl (pgs_cons (pg_name (i := 2) scFs.nd rfl (.inr rfl)) (pgs_cons (pg_name (i := 3) scFs.nd rfl (.inl rfl)) pgs_nil)))
        (pss_one (ps_if (pt_cmpR (op_neNilT hu0) (pv 2) (pe_tup (pa_nil)) (nomark _))
          (pss_one (ps_asg (pe_op op_add (pe_ix ix_list (pv 1) (pe_ix ix_tup (pv 2) (pe_int) (fun _ _ => rfl)) (fun _ _ => rfl)) (pv 3)) (pg_sub (pv 1) (pe_ix ix_tup (pv 2) (pe_int) (fun _ _ => rfl)) set_list))) pss_nil)))
      (pss_cons (ps_set (i := 4) scFs.nd rfl (.inl rfl) (pe_lst (pa_nil)))
      (pss_cons (ps_for PassesOwn.never rfl (pi_tup (pe_ix ix_tup (pv 0) (pe_int) (fun _ _ => rfl))) (pg_tup rfl (pgs_cons (pg_name (i := 2) scFs.nd rfl (.inr rfl)) (pgs_cons (pg_name (i := 3) scFs.nd rfl (.inl rfl)) pgs_nil)))
        (pss_cons (ps_setLc (i := 5) (own := [("_law_k", 6)]) (g := gName 6) (tt := tTest (tOp (rI0 fun i j => .bl (decide (i < j))) (tOp (rIxL K) (tVar 1) (tOp (rIxT K) (tVar 2) (tVar 6))) (tOp (rIxT K) (tOp (rIxT K) (tVar 0) (tC (.int 0))) (tOp (rIxT K) (tVar 2) (tVar 6))))) (te := tVar 6) rfl scFs.nd rfl rfl (sw_true rfl rfl rfl (by decide +kernel)) (pi_range2 (by rfl) m_range (pa_cons (pe_int) (pa_cons (pe_callB call_lenQ (by rfl) m_len PySem.boot_len (pa_cons (pv 2) pa_nil)) pa_nil))) (blkOk_by (N := ["_law_instance", "_law_demand", "_law_posts", "_law_count", "_law_rows", "_law_free", "_law_k"]) (sc := defScope sFs) (by decide +kernel)) (fun _ _ _ _ _ => pg_name (i := 6) scFs.nd rfl (.inl rfl)) (fun _ _ _ _ _ => pts_one (pt_cmpR op_lt (pe_ix ix_list (pv 1) (pe_ix ix_tup (pv 2) (pv 6) (fun _ _ => rfl)) (fun _ _ => rfl)) (pe_ix ix_tup (pe_ix ix_tup (pv 0) (pe_int) (fun _ _ => rfl)) (pe_ix ix_tup (pv 2) (pv 6) (fun _ _ => rfl)) (fun _ _ => rfl)) (nomark _))) (fun _ _ _ _ _ => pv 6))
        (pss_one (ps_expr (pe_bm PySem.F.plainAttrs_list PySem.F.slot_list_append PySem.F.type_list_append mt_append (pv 4) (pa_cons (pe_tup (pa_cons (pe_ix ix_tup (pe_op op_catA (pv 2) (pe_tup (pa_cons (pe_non) pa_nil))) (pe_int) (fun _ _ => rfl)) (pa_cons (pe_callB (cr_min rfl) (by rfl) m_min (by decide +kernel) (pa_cons (pe_op op_cat (pv 5) (pe_lst (pa_cons (pe_callB call_lenQ (by rfl) m_len PySem.boot_len (pa_cons (pv 2) pa_nil)) pa_nil))) pa_nil)) pa_nil))) pa_nil))))))
      (pss_one (ps_ret (pe_tup (pa_cons (pv 1) (pa_cons (pv 4) pa_nil)))))))), ?_⟩
    obtain ⟨_, ca, ga, xs, e, hi, hc, hg, hgs⟩ := inst_open hI
    cases e
    have h6 := ok.c6
    refine ⟨by decide, fun p0 n0 => ⟨.ref i, rfl, i, _, 0, .ref ca, rfl, rfl, (TupK.new n0).sq hi, atI_nat (j := 0) rfl, ca, _, rfl, .inr ((TupK.new n0).sq hc), p0, _, _, rfl, rfl, upd_same, by omega, ?_, ?_, fun L nL => ?_⟩⟩
    · rw [List.length_map]; omega
    · rw [List.length_map]; show 1 * _ ≤ sizeLine; have := small (n := cs.length) (by omega); simp; omega
    have fL : H L = none := freeOf nL
    have s1 : Same H (upd (upd H p0 (.lst [.int 0])) L (.lst (List.replicate ((List.map V.int cs).length : Int).toNat [V.int 0]).flatten)) := samePut (sameNew n0) fL
    refine ⟨.ref i, rfl, i, _, 1, .ref ga, rfl, rfl, (TupK.of s1).sq hi, atI_nat (j := 1) rfl, ga, rfl, ⟨_, (TupK.of s1).sq hg⟩, for_it (walk_tup (K := K) (a := ga) (xs := xs))
      (fun i' σ H2 => ∃ y2 y3, σ = [some (.ref i), some (.ref L), y2, y3, none, none, none] ∧ Same H H2 ∧ H2 L = some (.lst ((demOf cs.length (gs.take i')).map V.int)))
      ⟨none, none, rfl, s1, ?_⟩ ?_ ?_ ?_⟩
    · rw [upd_same, List.length_map, Int.toNat_natCast, zeros_V]; rfl
    · rintro i' σ H2 _ ⟨y2, y3, rfl, s2, e2⟩
      exact (TupK.of s2).sq hg
    · rintro i' v σ H2 H3 hlt ⟨y2, y3, rfl, s2, e2⟩ ⟨rfl, hx⟩
      obtain ⟨d, hd, hxd⟩ := DpAll.at hgs hx
      rw [List.getElem?_map] at hd
      obtain ⟨g, hgi, rfl⟩ := Option.map_eq_some_iff.mp hd
      obtain ⟨gA, pA, rfl, hG, hP⟩ := grp_ref hxd
      have tk := TupK.of s2
      have hsn := demOf_snoc (n := cs.length) hgi
      have hgp := (ok.gp g (List.mem_of_getElem? hgi)).2.1
      have hdl := demOf_len cs.length (gs.take i')
      generalize hcur : demOf cs.length (gs.take i') = cur at e2 hsn hdl
      refine ⟨gA, _, rfl, tk.sq hG, rfl, _, _, rfl, _, _, rfl, rfl, ?_⟩
      refine ⟨.ref pA, rfl, Nat.zero_le _, fun Em nEm => ?_⟩
      have sE := sameNew (o := .tup []) nEm
      have tkE := tk.trans (TupK.of sE)
      have eE := sE _ _ e2
      refine ⟨pA, Em, _, rfl, rfl, tkE.sq hP, SqT.of upd_same, _, rfl, ?_⟩
      generalize upd H3 Em (.tup []) = H4 at sE tkE eE
      have sH := s2.trans sE
      cases hgg : g.1 with
      | nil =>
        refine iteF ⟨_, _, rfl, sH, ?_⟩
        rw [eE, hsn]
        unfold dAdd
        rw [hgg]
      | cons pp ps =>
        refine iteT ?_
        have hpr := hgp pp (by rw [hgg]; simp)
        obtain ⟨pn, rfl⟩ : ∃ pn : Nat, pp = pn := ⟨pp.toNat, by omega⟩
        have hpl : pn < cur.length := by omega
        have hP0 := tkE.sq hP
        have hcv : (cur.map V.int)[pn]? = some (.int cur[pn]) := by rw [List.getElem?_map, List.getElem?_eq_getElem hpl]; rfl
        have h0 : (g.1.map V.int)[0]? = some (.int (pn : Nat)) := by rw [hgg]; rfl
        refine ⟨.ref L, rfl, .ref pA, rfl, pA, _, 0, .int pn, rfl, rfl, hP0, atI_nat (j := 0) h0, L, _, _, .int cur[pn], rfl, rfl, SqL.of eE, atI_nat hcv, .int g.2, rfl, _, _, rfl, rfl, .ref L, rfl, .ref pA, rfl, pA, _, 0, .int pn, rfl, rfl, hP0, atI_nat (j := 0) h0, L, _, _, pn, rfl, rfl, eE, ixN_nat (by rw [List.length_map]; exact hpl), ?_⟩
        refine ⟨_, _, rfl, samePut sH fL, ?_⟩
        rw [upd_same, hsn]
        unfold dAdd
        rw [hgg]
        show _ = some (HO.lst ((addAt cur pn g.2).map V.int))
        unfold addAt
        rw [Int.toNat_natCast, List.getD_eq_getElem?_getD, List.getElem?_eq_getElem hpl, List.map_set]
        rfl
    rintro σ H1 ⟨y2, y3, rfl, s1, e1⟩
    rw [DpAll.len hgs, List.length_map, List.take_length] at e1
    have e1 : H1 L = some (.lst ((rDem cs gs).map V.int)) := e1
    have lxs : xs.length = gs.length := by have := DpAll.len hgs; rwa [List.length_map] at this
    have h10 := ok.g10
    refine ⟨Nat.zero_le _, fun Ro nRo => ?_⟩
    have sR := s1.trans (sameNew (o := .lst []) nRo)
    have fR := freeS s1 nRo
    have nLR : L ≠ Ro := ne_of_none e1 nRo
    refine ⟨.ref i, rfl, i, _, 1, .ref ga, rfl, rfl, sqS sR hi, atI_nat (j := 1) rfl, ga, rfl, ⟨_, sqS sR hg⟩, for_it (walk_tup (K := K) (a := ga) (xs := xs))
      (fun j σ H2 => ∃ (y2 y3 y5 : Option V) (vs : List V), σ = [some (.ref i), some (.ref L), y2, y3, some (.ref Ro), y5, none] ∧ Same H H2 ∧ H2 L = some (.lst ((rDem cs gs).map V.int)) ∧ H2 Ro = some (.lst vs) ∧ Rl (FcV K cs gs H2) vs (gs.take j))
      ⟨_, _, none, [], rfl, sR, upNew nRo e1, upd_same, by rw [List.take_zero]; exact Rl.nil⟩ ?_ ?_ ?_⟩
    · rintro j σ H2 _ ⟨_, _, _, _, rfl, s2, _⟩
      exact sqS s2 hg
    · rintro j v σ H2 H3 hlt ⟨y2, y3, y5, vs, rfl, s2, eL, eR, hR⟩ ⟨rfl, hx⟩
      obtain ⟨d, hd, hxd⟩ := DpAll.at hgs hx
      rw [List.getElem?_map] at hd
      obtain ⟨g, hgi, rfl⟩ := Option.map_eq_some_iff.mp hd
      obtain ⟨gA, pA, rfl, hG, hP⟩ := grp_ref hxd
      have hgp := (ok.gp g (List.mem_of_getElem? hgi)).2.1
      have hgl := (ok.gp g (List.mem_of_getElem? hgi)).1
      have hj : j < gs.length := (List.getElem?_eq_some_iff.mp hgi).1
      have hP2 := sqS s2 hP
      refine ⟨gA, _, rfl, sqS s2 hG, rfl, _, _, rfl, _, _, rfl, rfl, ?_⟩
      refine ⟨.ref pA, rfl, pA, _, rfl, .inr hP2, 1, _, rfl, ⟨by omega, by omega, by omega, by rw [List.length_map]; omega⟩, fun D nD => lc_it (walk_range (lo := 1) (n := (((List.map V.int g.1).length : Int) - 1).toNat))
        (LcP H3 D (List.range' 1 (g.1.length - 1)) (fun k => if isFree g.1 (rCla cs gs) k = true then some (.int (k : Int)) else none)) (.start nD) (fun _ _ _ _ => trivial) ?_ ?_⟩
      · rintro k x H4 H5 hk hL ⟨rfl, rfl⟩
        rw [List.length_map] at hk
        have hk1 : 1 + k < g.1.length := by omega
        have ek : (1 : Int) + (k : Nat) = ((1 + k : Nat) : Int) := by omega
        have hpv : (g.1.map V.int)[1 + k]? = some (.int g.1[1 + k]) := by rw [List.getElem?_map, List.getElem?_eq_getElem hk1]; rfl
        have hpr := hgp g.1[1 + k] (List.getElem_mem hk1)
        have hfr : isFree g.1 (rCla cs gs) (1 + k) = decide (0 < spOf cs gs g.1[1 + k]) := by
          unfold isFree
          rw [List.getD_eq_getElem?_getD, List.getElem?_eq_getElem hk1, Option.getD_some, cla_mem hpr]
          by_cases h : 0 < spOf cs gs g.1[1 + k]
          · rw [decide_eq_true h, decide_eq_false (by omega)]; rfl
          · rw [decide_eq_false h, decide_eq_true (by omega)]; rfl
        generalize g.1[1 + k] = p at hpv hpr hfr
        obtain ⟨pn, rfl⟩ : ∃ pn : Nat, p = pn := ⟨p.toNat, by omega⟩
        have hpn : pn < cs.length := by omega
        have hdl := rDem_len cs gs
        have hz : (List.range' 1 (g.1.length - 1))[k]? = some (1 + k) := by rw [List.getElem?_range' (by omega)]; simp
        have hsp : spOf cs gs (pn : Int) = cs[pn] - (rDem cs gs)[pn]'(by omega) := by
          unfold spOf
          rw [Int.toNat_natCast, List.getD_eq_getElem?_getD, List.getD_eq_getElem?_getD, List.getElem?_eq_getElem hpn, List.getElem?_eq_getElem (by omega)]; rfl
        dsimp only
        rw [ek]
        refine ⟨rfl, .ref L, rfl, .ref pA, rfl, .int ((1 + k : Nat) : Int), rfl, pA, _, _, _, rfl, rfl, sqS hL.1 hP2, atI_nat hpv, L, _, _, .int ((rDem cs gs)[pn]'(by omega)), rfl, rfl, SqL.of (hL.1 _ _ eL), atI_nat (by rw [List.getElem?_map, List.getElem?_eq_getElem (by omega)]; rfl), ?_⟩
        refine ⟨.ref i, rfl, i, _, 0, .ref ca, rfl, rfl, sqS (s2.trans hL.1) hi, atI_nat (j := 0) rfl, .ref pA, rfl, .int ((1 + k : Nat) : Int), rfl, pA, _, _, _, rfl, rfl, sqS hL.1 hP2, atI_nat hpv, ca, _, _, .int cs[pn], rfl, rfl, sqS (s2.trans hL.1) hc, atI_nat (by rw [List.getElem?_map, List.getElem?_eq_getElem hpn]; rfl), _, _, rfl, rfl, _, rfl, ite2 (fun h1 => ?_) (fun h1 => ?_)⟩
        · have h1 : (rDem cs gs)[pn]'(by omega) < cs[pn] := of_decide_eq_true h1
          exact ⟨_, rfl, hL.yes nD (Same.refl _) hz (if_pos (by rw [hfr]; exact decide_eq_true (by omega))) (by omega)⟩
        · have h1 : ¬ (rDem cs gs)[pn]'(by omega) < cs[pn] := fun z => h1 (decide_eq_true z)
          exact hL.no (Same.refl _) hz (if_neg (by rw [hfr, decide_eq_true_eq]; omega))
      rintro H4 hL
      have e4 := hL.done (by rw [List.length_range', List.length_map]; omega)
      rw [fm_nat] at e4
      have s4 := hL.1
      have eR4 := s4 _ _ eR
      have eL4 := s4 _ _ eL
      have hP4 := sqS s4 hP2
      generalize hfl : ((List.range' 1 (g.1.length - 1)).filter (isFree g.1 (rCla cs gs))).map (fun (k : Nat) => (k : Int)) = fl at e4
      have lfl : fl.length ≤ 6 := by
        rw [← hfl, List.length_map]
        have := List.length_filter_le (isFree g.1 (rCla cs gs)) (List.range' 1 (g.1.length - 1))
        rw [List.length_range'] at this
        omega
      refine ⟨.ref Ro, rfl, .inl ⟨rfl, _, SqL.of eR4⟩, .ref pA, rfl, (show (1 : Nat) ≤ sizeLine by decide), fun N nN => ?_⟩
      have sN := sameNew (o := .tup [.non]) nN
      refine cat_eq (sqS sN hP4) (SqT.of upd_same) (by rw [List.length_map]; exact small6 (by simp; omega)) (fun H5 pp s5 hpp => ?_)
      refine ⟨pp, _, _, optV g.1 0, rfl, rfl, hpp, atI_nat (j := 0) (cat_at (Nat.zero_le _)), ?_⟩
      have s45 := sN.trans s5
      refine ⟨.ref D, rfl, .ref pA, rfl, pA, _, rfl, .inr (sqS s45 hP4), (show (1 : Nat) ≤ sizeLine by decide), fun N2 nN2 => ?_⟩
      have sN2 := sameNew (o := .lst [V.int ((List.map V.int g.1).length : Int)]) nN2
      refine ⟨D, N2, _, _, rfl, rfl, sN2 _ _ (s45 _ _ e4), upd_same, by rw [List.length_map]; exact small6 (by simp; omega), fun M nM => ?_⟩
      have hM : fl.map V.int ++ [V.int ((List.map V.int g.1).length : Int)] = (fl ++ [(g.1.length : Int)]).map V.int := by rw [List.map_append, List.length_map]; rfl
      rw [hM]
      have sM := sameNew (o := .lst ((fl ++ [(g.1.length : Int)]).map V.int)) nM
      refine ⟨M, fl ++ [(g.1.length : Int)], rfl, SqL.of upd_same, by simp, fun m hm hl => ?_⟩
      have hmr : m = (resC cs gs g : Int) := res_min (by rw [hfl]; exact hm) (by rw [hfl]; exact hl)
      subst hmr
      refine ⟨(show (2 : Nat) ≤ sizeLine by decide), fun G nG => ?_⟩
      have sG := sameNew (o := .tup [optV g.1 0, .int (resC cs gs g : Int)]) nG
      have s49 := s45.trans (sN2.trans (sM.trans sG))
      have hGt : SqT K (upd (upd (upd H5 N2 (.lst [V.int ((List.map V.int g.1).length : Int)])) M (.lst ((fl ++ [(g.1.length : Int)]).map V.int))) G (.tup [optV g.1 0, .int (resC cs gs g : Int)])) G [optV g.1 0, .int (resC cs gs g : Int)] := SqT.of upd_same
      generalize upd (upd (upd H5 N2 (.lst [V.int ((List.map V.int g.1).length : Int)])) M (.lst ((fl ++ [(g.1.length : Int)]).map V.int))) G (.tup [optV g.1 0, .int (resC cs gs g : Int)]) = H9 at s49 hGt ⊢
      have eR9 := s49 _ _ eR4
      have lvs : vs.length ≤ 10 := by rw [hR.1, List.length_take]; omega
      have tkp : TupK H9 (upd H9 Ro (.lst (vs ++ [.ref G]))) := TupK.put eR9
      refine ⟨Ro, _, _, rfl, rfl, eR9, small (by omega), ?_⟩
      refine ⟨_, _, _, vs ++ [.ref G], rfl, samePut (s2.trans (s4.trans s49)) fR, by rw [upd_ne nLR]; exact s49 _ _ eL4, upd_same, ?_⟩
      rw [take_snoc hgi]
      exact (hR.mono fun v r h => h.tk (((TupK.of s4).trans (.of s49)).trans tkp)).snoc ⟨G, rfl, tkp.sq hGt⟩
    · rintro σ H2 ⟨y2, y3, y5, vs, rfl, s2, eL, eR, hR⟩
      rw [lxs, List.take_length] at hR
      refine ⟨.ref L, rfl, .ref Ro, rfl, (show (2 : Nat) ≤ sizeLine by decide), fun p np => ?_⟩
      have sp := sameNew (o := .tup [.ref L, .ref Ro]) np
      exact q _ p L Ro vs (s2.trans sp) (SqT.of upd_same) (sp _ _ eL) (sp _ _ eR) (hR.mono fun v r h => h.tk (.of sp))
def spSi (K : PySem.W.Frag) : Sp := fun vs H Q _ => ∃ (i : Addr) (cs : List Int) (gs : List Gp), vs = [.ref i] ∧ Dp K H (.ref i) (dInst cs gs) ∧ InsOk cs gs ∧
  ∀ H' p A B, Same H H' → SqT K H' p [.ref A, .ref B] → H' A = some (.lst ((rCro cs gs).map V.int)) → H' B = some (.lst ((rUnc cs gs).map V.int)) → H A = none → H B = none → Q (.ref p) H'
set_option maxHeartbeats 8000000 in
theorem ok_Si {f fFs : Addr} {fd fdFs : FuncData} (F : Fun K "_law_sides" "_law_sides" sSi f fd)
    (FFs : Fun K "_law_facts" "_law_facts" sFs fFs fdFs) (bFs : Binds K fdFs ["_law_instance"] []) (gFs : mg "_law_facts" = some (.ref fFs)) (GFs : FnOk P w K mg base CX0 1 fFs fdFs ["_law_instance"] (spFs K))
    (m_len : mg "len" = none) (m_list : mg "list" = none) (m_range : mg "range" = none) :
    FnOk P w K mg base CX0 2 f fd ["_law_instance"] (spSi K) := by
  refine F.ok scSi (fun vs H Q E h => ?_) (fun cdv A outer s H vs Q E hr h => ?_)
  · obtain ⟨i, cs, gs, rfl, _⟩ := h; rfl
  · obtain ⟨i, cs, gs, rfl, hI, ok, q⟩ := h
    refine ⟨_, pss_cons (ps_asg (pe_call GFs (hr.mono (by omega)) (by rfl) gFs FFs.kp bFs .nil pass0 (pa_cons (pv 0) pa_nil)) (pg_tup rfl (pgs_cons (pg_name (i := 1) scSi.nd rfl (.inr rfl)) (pgs_cons (pg_name (i := 2) scSi.nd rfl (.inl rfl)) pgs_nil))))
      (pss_cons (ps_set (i := 3) scSi.nd rfl (.inl rfl) (pe_listRg rfl (by rfl) m_list (prg_1 (by rfl) m_range (pe_callB call_lenQ (by rfl) m_len PySem.boot_len (pa_cons (pv 1) pa_nil)))))
      (pss_cons (ps_setLc (i := 4) (own := [("_law_post", 5)]) (g := gName 5) (tt := tTest (tOp (rI0 fun i j => .bl (decide (j < i))) (tOp (rIxL K) (tVar 1) (tVar 5)) (tOp (rIxT K) (tOp (rIxT K) (tVar 0) (tC (.int 0))) (tVar 5)))) (te := tVar 5) rfl scSi.nd rfl rfl (sw_true rfl rfl rfl (by decide +kernel)) (pi_list (pv 3)) (blkOk_by (N := ["_law_instance", "_law_demand", "_law_rows", "_law_posts", "_law_crowded", "_law_post"]) (sc := defScope sSi) (by decide +kernel)) (fun _ _ _ _ _ => pg_name (i := 5) scSi.nd rfl (.inl rfl)) (fun _ _ _ _ _ => pts_one (pt_cmpR op_gt (pe_ix ix_list (pv 1) (pv 5) (fun _ _ => rfl)) (pe_ix ix_tup (pe_ix ix_tup (pv 0) (pe_int) (fun _ _ => rfl)) (pv 5) (fun _ _ => rfl)) (nomark _))) (fun _ _ _ _ _ => pv 5))
      (pss_one (ps_ret (pe_tup (pa_cons (pv 4) (pa_cons (pe_lc (own := [("_law_post", 5)]) (g := gName 5) (tt := tTest (tOp (rI0 fun i j => .bl (decide (i < j))) (tOp (rIxL K) (tVar 1) (tVar 5)) (tOp (rIxT K) (tOp (rIxT K) (tVar 0) (tC (.int 0))) (tVar 5)))) (te := tVar 5) rfl scSi.nd (pi_list (pv 3)) (blkOk_by (N := ["_law_instance", "_law_demand", "_law_rows", "_law_posts", "_law_crowded", "_law_post"]) (sc := defScope sSi) (by decide +kernel)) (fun _ _ _ _ _ => pg_name (i := 5) scSi.nd rfl (.inl rfl)) (fun _ _ _ _ _ => pts_one (pt_cmpR op_lt (pe_ix ix_list (pv 1) (pv 5) (fun _ _ => rfl)) (pe_ix ix_tup (pe_ix ix_tup (pv 0) (pe_int) (fun _ _ => rfl)) (pv 5) (fun _ _ => rfl)) (nomark _))) (fun _ _ _ _ _ => pv 5)) pa_nil))))))), ?_⟩
    obtain ⟨_, ca, ga, xs, e, hi, hc, hg, hgs⟩ := inst_open hI
    cases e
    have h6 := ok.c6
    have hdl := rDem_len cs gs
    refine ⟨.ref i, rfl, i, cs, gs, rfl, hI, ok, fun H1 p1 D R vs s1 hp1 eD eR hR => ?_⟩
    refine ⟨p1, _, rfl, hp1, rfl, _, _, rfl, _, _, rfl, rfl, ?_⟩
    refine ⟨.ref D, rfl, D, _, rfl, .inl (SqL.of eD), _, rfl, ⟨by omega, by omega, by simp only [List.length_map, hdl]; omega, by simp only [List.length_map, hdl]; omega, by simp only [List.length_map, hdl]; omega⟩, fun Lr nLr => ?_⟩
    have hrg : rgV 0 (((rDem cs gs).map V.int).length : Int) = (List.range cs.length).map (fun (k : Nat) => V.int (k : Int)) := by
      unfold rgV
      rw [List.length_map, hdl]
      have : ((cs.length : Int) - 0).toNat = cs.length := by omega
      rw [this]
      simp
    rw [hrg]
    have sL := sameNew (o := .lst ((List.range cs.length).map (fun (k : Nat) => V.int (k : Int)))) nLr
    have eLr : (upd H1 Lr (.lst ((List.range cs.length).map (fun (k : Nat) => V.int (k : Int))))) Lr = some (.lst ((List.range cs.length).map (fun (k : Nat) => V.int (k : Int)))) := upd_same
    generalize upd H1 Lr (.lst ((List.range cs.length).map (fun (k : Nat) => V.int (k : Int)))) = H2 at sL eLr ⊢
    have s2 := s1.trans sL
    have hsp : ∀ {k : Nat} (h : k < cs.length), spOf cs gs (k : Int) = cs[k] - (rDem cs gs)[k]'(by omega) := by
      intro k h
      unfold spOf
      rw [Int.toNat_natCast, List.getD_eq_getElem?_getD, List.getD_eq_getElem?_getD, List.getElem?_eq_getElem h, List.getElem?_eq_getElem (by omega)]; rfl
    refine ⟨.ref Lr, rfl, Lr, rfl, ⟨_, SqL.of eLr⟩, fun A nA => lc_it (walk_list (K := K) (a := Lr) (xs := (List.range cs.length).map (fun (k : Nat) => V.int (k : Int))))
      (LcP H2 A (List.range cs.length) (fun k => if decide (spOf cs gs (k : Int) < 0) = true then some (.int (k : Int)) else none)) (.start nA) (fun j H3 _ h => SqL.of (h.1 _ _ eLr)) ?_ ?_⟩
    · rintro j x H5 H6 hj hL ⟨rfl, hx⟩
      have hx : ((List.range cs.length).map (fun (k : Nat) => V.int (k : Int)))[j]? = some x := hx
      rw [List.length_map, List.length_range] at hj
      have hzj := List.getElem?_range hj
      rw [List.getElem?_map, hzj] at hx
      cases hx
      have sx := s2.trans hL.1
      refine ⟨rfl, .ref D, rfl, .int (j : Nat), rfl, D, _, _, .int ((rDem cs gs)[j]'(by omega)), rfl, rfl, SqL.of (hL.1 _ _ (sL _ _ eD)), atI_nat (by rw [List.getElem?_map, List.getElem?_eq_getElem (by omega)]; rfl), ?_⟩
      refine ⟨.ref i, rfl, i, _, 0, .ref ca, rfl, rfl, sqS sx hi, atI_nat (j := 0) rfl, .int (j : Nat), rfl, ca, _, _, .int cs[j], rfl, rfl, sqS sx hc, atI_nat (by rw [List.getElem?_map, List.getElem?_eq_getElem hj]; rfl), _, _, rfl, rfl, _, rfl, ite2 (fun h1 => ?_) (fun h1 => ?_)⟩
      · have h1 := of_decide_eq_true h1
        exact ⟨_, rfl, hL.yes nA (Same.refl _) hzj (if_pos (decide_eq_true (by have := hsp hj; omega))) (by omega)⟩
      · have h1 : ¬ cs[j] < (rDem cs gs)[j]'(by omega) := fun z => h1 (decide_eq_true z)
        exact hL.no (Same.refl _) hzj (if_neg (by rw [decide_eq_true_eq]; have := hsp hj; omega))
    rintro H3 hL
    have e3 := hL.done (by rw [List.length_range, List.length_map, List.length_range]; omega)
    rw [fm_posts _ (fun p => decide (spOf cs gs p < 0)), ← cro_list] at e3
    have s3 := s2.trans hL.1
    have fA := freeS s2 nA
    have s23 := hL.1
    have eLr3 := s23 _ _ eLr
    refine ⟨.ref A, rfl, .ref Lr, rfl, Lr, rfl, ⟨_, SqL.of eLr3⟩, fun B nB => lc_it (walk_list (K := K) (a := Lr) (xs := (List.range cs.length).map (fun (k : Nat) => V.int (k : Int))))
      (LcP H3 B (List.range cs.length) (fun k => if decide (0 < spOf cs gs (k : Int)) = true then some (.int (k : Int)) else none)) (.start nB) (fun j H3 _ h => SqL.of (h.1 _ _ eLr3)) ?_ ?_⟩
    · rintro j x H5 H6 hj hL ⟨rfl, hx⟩
      have hx : ((List.range cs.length).map (fun (k : Nat) => V.int (k : Int)))[j]? = some x := hx
      rw [List.length_map, List.length_range] at hj
      have hzj := List.getElem?_range hj
      rw [List.getElem?_map, hzj] at hx
      cases hx
      have sx := s3.trans hL.1
      refine ⟨rfl, .ref D, rfl, .int (j : Nat), rfl, D, _, _, .int ((rDem cs gs)[j]'(by omega)), rfl, rfl, SqL.of (hL.1 _ _ (s23 _ _ (sL _ _ eD))), atI_nat (by rw [List.getElem?_map, List.getElem?_eq_getElem (by omega)]; rfl), ?_⟩
      refine ⟨.ref i, rfl, i, _, 0, .ref ca, rfl, rfl, sqS sx hi, atI_nat (j := 0) rfl, .int (j : Nat), rfl, ca, _, _, .int cs[j], rfl, rfl, sqS sx hc, atI_nat (by rw [List.getElem?_map, List.getElem?_eq_getElem hj]; rfl), _, _, rfl, rfl, _, rfl, ite2 (fun h1 => ?_) (fun h1 => ?_)⟩
      · have h1 := of_decide_eq_true h1
        exact ⟨_, rfl, hL.yes nB (Same.refl _) hzj (if_pos (decide_eq_true (by have := hsp hj; omega))) (by omega)⟩
      · have h1 : ¬ (rDem cs gs)[j]'(by omega) < cs[j] := fun z => h1 (decide_eq_true z)
        exact hL.no (Same.refl _) hzj (if_neg (by rw [decide_eq_true_eq]; have := hsp hj; omega))
    rintro H4 hL
    have e4 := hL.done (by rw [List.length_range, List.length_map, List.length_range]; omega)
    rw [fm_posts _ (fun p => decide (0 < spOf cs gs p))] at e4
    refine ⟨(show (2 : Nat) ≤ sizeLine by decide), fun p np => ?_⟩
    have sp := sameNew (o := .tup [.ref A, .ref B]) np
    exact q _ p A B (s3.trans (hL.1.trans sp)) (SqT.of upd_same) (sp _ _ (hL.1 _ _ e3)) (sp _ _ e4) fA (freeS s3 nB)
def Pst (cs C : List Int) : Prop := C.length ≤ 100 ∧ ∀ p ∈ C, 0 ≤ p ∧ p < (cs.length : Int)
def spSh (K : PySem.W.Frag) : Sp := fun vs H Q _ => ∃ (i a b : Addr) (cs : List Int) (gs : List Gp) (C R : List Int), vs = [.ref i, .ref a, .ref b] ∧ Dp K H (.ref i) (dInst cs gs) ∧ InsOk cs gs ∧ SqT K H a (C.map V.int) ∧ SqT K H b (R.map V.int) ∧ Pst cs C ∧ Pst cs R ∧
  ∀ H', Same H H' → Q (.int (sfOf C R cs gs)) H'
set_option maxHeartbeats 8000000 in
theorem ok_Sh {f fFs : Addr} {fd fdFs : FuncData} (F : Fun K "_law_short" "_law_short" sSh f fd)
    (FFs : Fun K "_law_facts" "_law_facts" sFs fFs fdFs) (bFs : Binds K fdFs ["_law_instance"] []) (gFs : mg "_law_facts" = some (.ref fFs)) (GFs : FnOk P w K mg base CX0 1 fFs fdFs ["_law_instance"] (spFs K))
    (m_sum : mg "sum" = none) (m_enumerate : mg "enumerate" = none) :
    FnOk P w K mg base CX0 2 f fd ["_law_instance", "_law_crowded", "_law_reserves"] (spSh K) := by
  refine F.ok scSh (fun vs H Q E h => ?_) (fun cdv A outer s H vs Q E hr h => ?_)
  · obtain ⟨i, a, b, cs, gs, C, R, rfl, _⟩ := h; rfl
  · obtain ⟨i, a, b, cs, gs, C, R, rfl, hI, ok, hA, hB, hC, hR, q⟩ := h
    refine ⟨_, pss_cons (ps_asg (pe_call GFs (hr.mono (by omega)) (by rfl) gFs FFs.kp bFs .nil pass0 (pa_cons (pv 0) pa_nil)) (pg_tup rfl (pgs_cons (pg_name (i := 3) scSh.nd rfl (.inr rfl)) (pgs_cons (pg_name (i := 4) scSh.nd rfl (.inl rfl)) pgs_nil))))
      (pss_cons (ps_set (i := 5) scSh.nd rfl (.inl rfl) (pe_callB (cr_sum rfl) (by rfl) m_sum (by decide +kernel) (pa_cons (pe_lc (own := [("_law_post", 11)]) (g := gName 11) (tt := tYes) (te := tOp (rI0 fun i j => .int (i - j)) (tOp (rIxL K) (tVar 3) (tVar 11)) (tOp (rIxT K) (tOp (rIxT K) (tVar 0) (tC (.int 0))) (tVar 11))) rfl scSh.nd (pi_tup (pv 1)) (blkOk_by (N := ["_law_instance", "_law_crowded", "_law_reserves", "_law_demand", "_law_rows", "_law_found", "_law_k", "_law_posts", "_law_count", "_law_first", "_law_reserve", "_law_post"]) (sc := defScope sSh) (by decide +kernel)) (fun _ _ _ _ _ => pg_name (i := 11) scSh.nd rfl (.inl rfl)) (fun _ _ _ _ _ => pts_nil) (fun _ _ _ _ _ => pe_op op_sub (pe_ix ix_list (pv 3) (pv 11) (fun _ _ => rfl)) (pe_ix ix_tup (pe_ix ix_tup (pv 0) (pe_int) (fun _ _ => rfl)) (pv 11) (fun _ _ => rfl)))) pa_nil)))
      (pss_cons (ps_set (i := 5) scSh.nd rfl (.inl rfl) (pe_op op_sub (pv 5) (pe_callB (cr_sum rfl) (by rfl) m_sum (by decide +kernel) (pa_cons (pe_lc (own := [("_law_post", 11)]) (g := gName 11) (tt := tYes) (te := tOp (rI0 fun i j => .int (i - j)) (tOp (rIxT K) (tOp (rIxT K) (tVar 0) (tC (.int 0))) (tVar 11)) (tOp (rIxL K) (tVar 3) (tVar 11))) rfl scSh.nd (pi_tup (pv 2)) (blkOk_by (N := ["_law_instance", "_law_crowded", "_law_reserves", "_law_demand", "_law_rows", "_law_found", "_law_k", "_law_posts", "_law_count", "_law_first", "_law_reserve", "_law_post"]) (sc := defScope sSh) (by decide +kernel)) (fun _ _ _ _ _ => pg_name (i := 11) scSh.nd rfl (.inl rfl)) (fun _ _ _ _ _ => pts_nil) (fun _ _ _ _ _ => pe_op op_sub (pe_ix ix_tup (pe_ix ix_tup (pv 0) (pe_int) (fun _ _ => rfl)) (pv 11) (fun _ _ => rfl)) (pe_ix ix_list (pv 3) (pv 11) (fun _ _ => rfl)))) pa_nil))))
      (pss_cons (ps_for PassesOwn.never rfl (pi_enumT (by rfl) m_enumerate (pa_cons (pe_ix ix_tup (pv 0) (pe_int) (fun _ _ => rfl)) pa_nil)) (pg_tup rfl (pgs_cons (pg_name (i := 6) scSh.nd rfl (.inl rfl)) (pgs_cons (pg_tup rfl (pgs_cons (pg_name (i := 7) scSh.nd rfl (.inl rfl)) (pgs_cons (pg_name (i := 8) scSh.nd rfl (.inl rfl)) pgs_nil))) pgs_nil)))
        (pss_cons (ps_asg (pe_ix ix_list (pv 4) (pv 6) (fun _ _ => rfl)) (pg_tup rfl (pgs_cons (pg_name (i := 9) scSh.nd rfl (.inl rfl)) (pgs_cons (pg_name (i := 10) scSh.nd rfl (.inl rfl)) pgs_nil))))
        (pss_one (ps_if (PW.pt (pw_and (pt_cmpR op_in_seq (pv 9) (pv 1) (by rfl)) (pw_and1 (pt_cmpR op_notIn_seq (pe_ix ix_tup (pe_op op_catA (pv 7) (pe_tup (pa_cons (pe_non) pa_nil))) (pv 10) (fun _ _ => rfl)) (pv 2) (by rfl)))))
          (pss_one (ps_set (i := 5) scSh.nd rfl (.inl rfl) (pe_op op_sub (pv 5) (pv 8)))) pss_nil))))
      (pss_one (ps_ret (pv 5)))))), ?_⟩
    obtain ⟨_, ca, ga, xs, e, hi, hc, hgt, hgs⟩ := inst_open hI
    cases e
    have h6 := ok.c6
    have hdl := rDem_len cs gs
    have h10 := ok.g10
    have lxs : xs.length = gs.length := by have := DpAll.len hgs; rwa [List.length_map] at this
    refine ⟨.ref i, rfl, i, cs, gs, rfl, hI, ok, fun H1 p1 D Ro vs s1 hp1 eD eR hFc => ?_⟩
    refine ⟨p1, _, rfl, hp1, rfl, _, _, rfl, _, _, rfl, rfl, ?_⟩
    have hsp : ∀ {k : Nat} (h : k < cs.length), spOf cs gs (k : Int) = cs[k] - (rDem cs gs)[k]'(by omega) := by
      intro k h
      unfold spOf
      rw [Int.toNat_natCast, List.getD_eq_getElem?_getD, List.getD_eq_getElem?_getD, List.getElem?_eq_getElem h, List.getElem?_eq_getElem (by omega)]; rfl
    refine ⟨.ref a, rfl, a, rfl, ⟨_, sqS s1 hA⟩, fun S1 nS1 => lc_it (walk_tup (K := K) (a := a) (xs := C.map V.int)) (LcP H1 S1 C (fun p => some (.int (- spOf cs gs p)))) (.start nS1) (fun j H3 _ h => sqS (s1.trans h.1) hA) ?_ ?_⟩
    · rintro j x H5 H6 hj hL ⟨rfl, hx⟩
      have hx : (C.map V.int)[j]? = some x := hx
      rw [List.getElem?_map] at hx
      obtain ⟨p, hp, rfl⟩ := Option.map_eq_some_iff.mp hx
      have hpr := hC.2 p (List.mem_of_getElem? hp)
      have hjl := (List.getElem?_eq_some_iff.mp hp).1
      have hcl := hC.1
      obtain ⟨pn, rfl⟩ : ∃ pn : Nat, p = pn := ⟨p.toNat, by omega⟩
      have hpn : pn < cs.length := by omega
      have sx := s1.trans hL.1
      refine ⟨rfl, .ref D, rfl, .int (pn : Nat), rfl, D, _, _, .int ((rDem cs gs)[pn]'(by omega)), rfl, rfl, SqL.of (hL.1 _ _ eD), atI_nat (by rw [List.getElem?_map, List.getElem?_eq_getElem (by omega)]; rfl), ?_⟩
      refine ⟨.ref i, rfl, i, _, 0, .ref ca, rfl, rfl, sqS sx hi, atI_nat (j := 0) rfl, .int (pn : Nat), rfl, ca, _, _, .int cs[pn], rfl, rfl, sqS sx hc, atI_nat (by rw [List.getElem?_map, List.getElem?_eq_getElem hpn]; rfl), _, _, rfl, rfl, ?_⟩
      exact hL.yes nS1 (Same.refl _) hp (by rw [hsp hpn]; congr 2; omega) (by omega)
    rintro H2 hL
    have e2 := hL.done (by rw [List.length_map]; omega)
    rw [fm_map] at e2
    have s2 := hL.1
    refine ⟨S1, C.map (fun p => - spOf cs gs p), rfl, SqL.of (by rw [e2, List.map_map]; rfl), ?_⟩
    refine ⟨_, rfl, .ref b, rfl, b, rfl, ⟨_, sqS (s1.trans s2) hB⟩, fun S2 nS2 => lc_it (walk_tup (K := K) (a := b) (xs := R.map V.int)) (LcP H2 S2 R (fun p => some (.int (spOf cs gs p)))) (.start nS2) (fun j H3 _ h => sqS ((s1.trans s2).trans h.1) hB) ?_ ?_⟩
    · rintro j x H5 H6 hj hL ⟨rfl, hx⟩
      have hx : (R.map V.int)[j]? = some x := hx
      rw [List.getElem?_map] at hx
      obtain ⟨p, hp, rfl⟩ := Option.map_eq_some_iff.mp hx
      have hpr := hR.2 p (List.mem_of_getElem? hp)
      have hjl := (List.getElem?_eq_some_iff.mp hp).1
      have hcl := hR.1
      obtain ⟨pn, rfl⟩ : ∃ pn : Nat, p = pn := ⟨p.toNat, by omega⟩
      have hpn : pn < cs.length := by omega
      have sx := (s1.trans s2).trans hL.1
      refine ⟨rfl, .ref i, rfl, i, _, 0, .ref ca, rfl, rfl, sqS sx hi, atI_nat (j := 0) rfl, .int (pn : Nat), rfl, ca, _, _, .int cs[pn], rfl, rfl, sqS sx hc, atI_nat (by rw [List.getElem?_map, List.getElem?_eq_getElem hpn]; rfl), ?_⟩
      refine ⟨.ref D, rfl, .int (pn : Nat), rfl, D, _, _, .int ((rDem cs gs)[pn]'(by omega)), rfl, rfl, SqL.of (hL.1 _ _ (s2 _ _ eD)), atI_nat (by rw [List.getElem?_map, List.getElem?_eq_getElem (by omega)]; rfl), _, _, rfl, rfl, ?_⟩
      exact hL.yes nS2 (Same.refl _) hp (by rw [hsp hpn]) (by omega)
    rintro H3 hL2
    have e3 := hL2.done (by rw [List.length_map]; omega)
    rw [fm_map] at e3
    have s03 := (s1.trans s2).trans hL2.1
    have eR3 := hL2.1 _ _ (s2 _ _ eR)
    have hFc3 := hFc.mono fun v r h => h.tk (.of (s2.trans hL2.1))
    refine ⟨S2, R.map (spOf cs gs), rfl, SqL.of (by rw [e3, List.map_map]; rfl), _, _, rfl, rfl, ?_⟩
    generalize hs1 : (C.map (fun p => - spOf cs gs p)).sum = z1
    generalize hs2 : (R.map (spOf cs gs)).sum = z2
    refine ⟨.ref i, rfl, i, _, 1, .ref ga, rfl, rfl, sqS s03 hi, atI_nat (j := 1) rfl, ga, _, rfl, sqS s03 hgt, for_it (walk_enumT (K := K) (a := ga) (xs := xs))
      (fun j σ H4 => ∃ (y6 y7 y8 y9 y10 : Option V), σ = [some (.ref i), some (.ref a), some (.ref b), some (.ref D), some (.ref Ro), some (.int (z1 - z2 - escOf C R cs gs (gs.take j))), y6, y7, y8, y9, y10, none] ∧ Same H3 H4)
      ⟨none, none, none, none, none, ?_, Same.refl _⟩ (fun j σ H4 _ h => by obtain ⟨_, _, _, _, _, _, s4⟩ := h; exact sqS (s03.trans s4) hgt) ?_ ?_⟩
    · rw [List.take_zero]; show _ = [_, _, _, _, _, some (V.int (z1 - z2 - 0)), _, _, _, _, _, _]; rw [Int.sub_zero]; rfl
    · rintro j v σ H4 H5 hlt ⟨y6, y7, y8, y9, y10, rfl, s4⟩ ⟨T, x, y, rfl, nT, rfl, ex, ey⟩
      have hj : j < gs.length := by omega
      have hg : gs[j]? = some gs[j] := List.getElem?_eq_getElem hj
      obtain ⟨gA, pA, hx, hG, hP⟩ := grp_at hgs hg
      cases ex
      have ey : xs[j]? = some y := ey
      rw [hx] at ey
      cases ey
      have hgl := (ok.gp gs[j] (List.getElem_mem hj)).1
      have sT := s4.trans (sameNew (o := .tup [.int (j : Nat), .ref gA]) nT)
      have hE := esc_snoc C R cs gs hg
      refine ⟨T, _, rfl, SqT.of upd_same, rfl, _, _, rfl, _, _, rfl, gA, _, rfl, sqS (s03.trans sT) hG, rfl, _, _, rfl, _, _, rfl, rfl, rfl, ?_⟩
      generalize upd H4 T (.tup [.int (j : Nat), .ref gA]) = H5 at sT ⊢
      have hP4 := sqS (s03.trans sT) hP
      have hvl : j < vs.length := by rw [hFc.1]; omega
      obtain ⟨g', hg', G, hGv, hGt⟩ := hFc3.at (List.getElem?_eq_getElem hvl)
      rw [hg] at hg'
      cases hg'
      refine ⟨.ref Ro, rfl, .int (j : Nat), rfl, Ro, _, _, _, rfl, rfl, SqL.of (sT _ _ eR3), atI_nat (List.getElem?_eq_getElem hvl), ?_⟩
      rw [hGv]
      refine ⟨G, _, rfl, sqS sT hGt, rfl, _, _, rfl, _, _, rfl, rfl, ?_⟩
      have no : ∀ Hn, Same H3 Hn → outV C R cs gs gs[j] = false → ∃ (y6 y7 y8 y9 y10 : Option V), [some (V.ref i), some (.ref a), some (.ref b), some (.ref D), some (.ref Ro), some (.int (z1 - z2 - escOf C R cs gs (gs.take j))), some (.int (j : Nat)), some (.ref pA), some (.int gs[j].2), some (optV gs[j].1 0), some (.int (resC cs gs gs[j] : Nat)), none] = [some (.ref i), some (.ref a), some (.ref b), some (.ref D), some (.ref Ro), some (.int (z1 - z2 - escOf C R cs gs (gs.take (j + 1)))), y6, y7, y8, y9, y10, none] ∧ Same H3 Hn := by
        intro Hn sn ho
        rw [hE, ho, if_neg (by decide), Int.add_zero]
        exact ⟨_, _, _, _, _, rfl, sn⟩
      refine ⟨optV gs[j].1 0, rfl, .ref a, rfl, a, _, rfl, .inr (sqS (s03.trans sT) hA), flat_opt _ _, flat_ints _, _, rfl, ?_⟩
      rw [if_neg (by decide)]
      refine ite2 (fun h1 => ?_) (fun h1 => ?_)
      · refine ⟨.ref pA, rfl, (show (1 : Nat) ≤ sizeLine by decide), fun N nN => ?_⟩
        have sN := sameNew (o := .tup [.non]) nN
        refine cat_eq (sqS sN hP4) (SqT.of upd_same) (by rw [List.length_map]; exact small6 (by simp; omega)) (fun H7 pp s7 hpp => ?_)
        have sn7 := sT.trans (sN.trans s7)
        refine ⟨.int (resC cs gs gs[j] : Nat), rfl, pp, _, _, optV gs[j].1 (resC cs gs gs[j]), rfl, rfl, hpp, atI_nat (cat_at (resOf_le _ _)), .ref b, rfl, b, _, rfl, .inr (sqS (s03.trans sn7) hB), flat_opt _ _, flat_ints _, _, rfl, ite2 (fun h2 => ?_) (fun h2 => ?_)⟩
        · rw [if_pos rfl] at h2
          refine ⟨_, rfl, .int gs[j].2, rfl, _, _, rfl, rfl, ?_⟩
          have ho' : outV C R cs gs gs[j] = true := by unfold outV; rw [h1, h2]; rfl
          have hv : z1 - z2 - escOf C R cs gs (gs.take j) - gs[j].2 = z1 - z2 - escOf C R cs gs (gs.take (j + 1)) := by rw [hE, ho', if_pos rfl]; omega
          dsimp only
          rw [hv]
          exact ⟨_, _, _, _, _, rfl, sn7⟩
        · rw [if_pos rfl] at h2
          exact no _ sn7 (by unfold outV; rw [h1]; simpa using h2)
      · exact no _ sT (by unfold outV; rw [Bool.eq_false_iff.mpr h1]; rfl)
    · rintro σ H4 ⟨y6, y7, y8, y9, y10, rfl, s4⟩
      have := q _ (s03.trans s4)
      rw [lxs, List.take_length]
      have hv : z1 - z2 - escOf C R cs gs gs = sfOf C R cs gs := by unfold sfOf; rw [hs1, hs2]; omega
      rw [hv]
      exact ⟨_, rfl, this⟩
end
end Pv

namespace Pv
open PySem PySem.Spec PyProof.Rows L2
abbrev sSf : Stmt := topS 16
theorem scSf : FnScope ["instance", "crowded", "reserves", "over", "free", "needed", "post"] ["instance", "crowded", "reserves"] (defScope sSf) := ⟨rfl, rfl, rfl, by decide +kernel, rfl, by decide +kernel, by decide +kernel⟩
abbrev sLk : Stmt := topS 32
theorem scLk : FnScope ["_law_instance", "_law_crowded", "_law_reserves", "_law_found", "e"] ["_law_instance", "_law_crowded", "_law_reserves"] (defScope sLk) := ⟨rfl, rfl, rfl, by decide +kernel, rfl, by decide +kernel, by decide +kernel⟩
theorem rt_open {ps : List Int} {d : PyData} (h : rtB ps d = true) : ∃ C, d = dI C ∧ ∀ p ∈ C, p ∈ ps := by
  unfold rtB at h
  cases e : intsOf d with
  | none => rw [e] at h; cases h
  | some C =>
    rw [e] at h
    cases d with
    | tuple ds =>
      simp only [intsOf] at e
      rw [Bool.and_eq_true] at h
      exact ⟨C, by rw [intsAll_eq e]; rfl, fun p hp => by simpa using List.all_eq_true.mp h.1 p hp⟩
    | _ => simp [intsOf] at e
theorem rt_len {ps C : List Int} (h : rtB ps (dI C) = true) : C.length ≤ ps.length := by
  unfold rtB dI at h
  simp only [intsOf, intsAll_ints, Bool.and_eq_true] at h
  exact asc_len h.2 h.1
theorem dq_dI {K : PySem.W.Frag} {st r : Addr} {H : Hp} {v : V} {C : List Int} (h : Dq K st r H v (dI C)) : ∃ a, v = .ref a ∧ SqT K H a (C.map V.int) := by
  unfold dI at h
  cases h with
  | tup h1 h2 => exact ⟨_, rfl, dqInts h2 ▸ h1⟩
def sfD (cs : List Int) (gs : List Gp) (d d2 : PyData) : Int := match intsOf d, intsOf d2 with | some C, some R => sfOf C R cs gs | _, _ => 0
def askD (cs : List Int) (gs : List Gp) (d d2 : PyData) : PyData :=
  if rtB (rCro cs gs) d = true then (if rtB (rUnc cs gs) d2 = true then .list [.str "returned", .int (sfD cs gs d d2)] else .list [.str "bad", d2, .bool true]) else .list [.str "bad", d, .bool true]
section
variable {P : Program} {w : World} {K : PySem.W.Frag} {mg : Str → Option Value} {base : Heap}
def spSf (K : PySem.W.Frag) (C : Addr) : Sp := fun vs H Q E => ∃ (st r i : Addr) (v v2 : V) (cs : List Int) (gs : List Gp) (d d2 : PyData), vs = [.ref i, v, v2] ∧ Dp K H (.ref i) (dInst cs gs) ∧ InsOk cs gs ∧ Dq K st r H v d ∧ Dq K st r H v2 d2 ∧
  (rtB (rCro cs gs) d = false → ∀ H' dx, Same H H' → H' dx = none → E (.ref C) (some dx) (upd H' dx (.xd [("value", v)]))) ∧
  (rtB (rCro cs gs) d = true → rtB (rUnc cs gs) d2 = false → ∀ H' dx, Same H H' → H' dx = none → E (.ref C) (some dx) (upd H' dx (.xd [("value", v2)]))) ∧
  (∀ C R, d = dI C → d2 = dI R → rtB (rCro cs gs) d = true → rtB (rUnc cs gs) d2 = true → ∀ H', Same H H' → Q (.int (sfOf C R cs gs)) H')
set_option maxHeartbeats 8000000 in
theorem ok_Sf {f fCr fIc fUp fEx fFr fEc : Addr} {fd fdCr fdIc fdUp fdEx fdFr fdEc : FuncData} (F : Fun K "shortfall" "shortfall" sSf f fd)
    (FCr : Fun K "crowded_posts" "crowded_posts" sCro fCr fdCr) (bCr : Binds K fdCr ["instance"] []) (gCr : mg "crowded_posts" = some (.ref fCr)) (GCr : FnOk P w K mg base CX0 3 fCr fdCr ["instance"] (spVec K rCro))
    (FIc : Fun K "is_choice" "is_choice" sIc fIc fdIc) (bIc : Binds K fdIc ["value", "posts"] []) (gIc : mg "is_choice" = some (.ref fIc)) (GIc : FnOk P w K mg base CX0 2 fIc fdIc ["value", "posts"] (spIc K))
    (FUp : Fun K "unclaimed_posts" "unclaimed_posts" sUp fUp fdUp) (bUp : Binds K fdUp ["instance"] []) (gUp : mg "unclaimed_posts" = some (.ref fUp)) (GUp : FnOk P w K mg base CX0 4 fUp fdUp ["instance"] (spUp K))
    (FEx : Fun K "excesses" "excesses" sExc fEx fdEx) (bEx : Binds K fdEx ["instance"] []) (gEx : mg "excesses" = some (.ref fEx)) (GEx : FnOk P w K mg base CX0 2 fEx fdEx ["instance"] (spVec K rExc))
    (FFr : Fun K "free_places" "free_places" sFre fFr fdFr) (bFr : Binds K fdFr ["instance"] []) (gFr : mg "free_places" = some (.ref fFr)) (GFr : FnOk P w K mg base CX0 2 fFr fdFr ["instance"] (spVec K rFre))
    (FEc : Fun K "escape_count" "escape_count" sEc fEc fdEc) (bEc : Binds K fdEc ["instance", "crowded", "reserves"] []) (gEc : mg "escape_count" = some (.ref fEc)) (GEc : FnOk P w K mg base CX0 5 fEc fdEc ["instance", "crowded", "reserves"] (spEc K))
    {cBP : Addr} {fiBP : Addr} {fdiBP : FuncData} (gBP : mg "BadPosts" = some (.ref cBP)) (XBP : XF K cBP fiBP "value") (GiBP : FnOk P w K mg base CX0 1 fiBP fdiBP ["self", "value"] (spI1 cBP "value")) (biBP : Binds K fdiBP ["self", "value"] [])
    (m_sum : mg "sum" = none) :
    FnOk P w K mg base (L2.CX P w) 6 f fd ["instance", "crowded", "reserves"] (spSf K cBP) := by
  refine F.okX scSf (fun vs H Q E h => ?_) (fun cdv A outer s H vs Q E hr h => ?_)
  · obtain ⟨st, r, i, v, v2, cs, gs, d, d2, rfl, _⟩ := h; rfl
  · obtain ⟨st, r, i, v, v2, cs, gs, d, d2, rfl, hI, ok, hD, hD2, q⟩ := h
    refine ⟨_, pss_cons (ps_if (pt_not (pt_val (pe_call GIc (hr.mono (by omega)) (by rfl) gIc FIc.kp bIc .nil pass0 (pa_cons (pv 1) (pa_cons (pe_call GCr (hr.mono (by omega)) (by rfl) gCr FCr.kp bCr .nil pass0 (pa_cons (pv 0) pa_nil)) pa_nil)))))
        (pss_one (ps_raise rfl (takes_of rfl rfl rfl rfl) (pmk_oex XBP.T XBP.iC XBP.tI GiBP (hr.mono (by omega)) biBP .nil pass0 (by rfl) gBP (pa_cons (pv 1) pa_nil)))) pss_nil)
      (pss_cons (ps_if (pt_not (pt_val (pe_call GIc (hr.mono (by omega)) (by rfl) gIc FIc.kp bIc .nil pass0 (pa_cons (pv 2) (pa_cons (pe_call GUp (hr.mono (by omega)) (by rfl) gUp FUp.kp bUp .nil pass0 (pa_cons (pv 0) pa_nil)) pa_nil)))))
        (pss_one (ps_raise rfl (takes_of rfl rfl rfl rfl) (pmk_oex XBP.T XBP.iC XBP.tI GiBP (hr.mono (by omega)) biBP .nil pass0 (by rfl) gBP (pa_cons (pv 2) pa_nil)))) pss_nil)
      (pss_cons (ps_set (i := 3) scSf.nd rfl (.inr rfl) (pe_call GEx (hr.mono (by omega)) (by rfl) gEx FEx.kp bEx .nil pass0 (pa_cons (pv 0) pa_nil)))
      (pss_cons (ps_set (i := 4) scSf.nd rfl (.inr rfl) (pe_call GFr (hr.mono (by omega)) (by rfl) gFr FFr.kp bFr .nil pass0 (pa_cons (pv 0) pa_nil)))
      (pss_cons (ps_set (i := 5) scSf.nd rfl (.inl rfl) (pe_op op_sub (pe_callB (cr_sum rfl) (by rfl) m_sum (by decide +kernel) (pa_cons (pe_lc (own := [("post", 6)]) (g := gName 6) (tt := tYes) (te := tOp (rIxT K) (tVar 3) (tVar 6)) rfl scSf.nd (pi_tup (pv 1)) (blkOk_by (N := ["instance", "crowded", "reserves", "over", "free", "needed", "post"]) (sc := defScope sSf) (by decide +kernel)) (fun _ _ _ _ _ => pg_name (i := 6) scSf.nd rfl (.inl rfl)) (fun _ _ _ _ _ => pts_nil) (fun _ _ _ _ _ => pe_ix ix_tup (pv 3) (pv 6) (fun _ _ => rfl))) pa_nil)) (pe_call GEc (hr.mono (by omega)) (by rfl) gEc FEc.kp bEc .nil pass0 (pa_cons (pv 0) (pa_cons (pv 1) (pa_cons (pv 2) pa_nil))))))
      (pss_one (ps_ret (pe_op op_sub (pv 5) (pe_callB (cr_sum rfl) (by rfl) m_sum (by decide +kernel) (pa_cons (pe_lc (own := [("post", 6)]) (g := gName 6) (tt := tYes) (te := tOp (rIxT K) (tVar 4) (tVar 6)) rfl scSf.nd (pi_tup (pv 2)) (blkOk_by (N := ["instance", "crowded", "reserves", "over", "free", "needed", "post"]) (sc := defScope sSf) (by decide +kernel)) (fun _ _ _ _ _ => pg_name (i := 6) scSf.nd rfl (.inl rfl)) (fun _ _ _ _ _ => pts_nil) (fun _ _ _ _ _ => pe_ix ix_tup (pv 4) (pv 6) (fun _ _ => rfl))) pa_nil))))))))), ?_⟩
    obtain ⟨q1, q2, q3⟩ := q
    have h6 := ok.c6
    refine ⟨v, rfl, .ref i, rfl, i, cs, gs, rfl, hI, ok, fun H1 p1 s1 h1 => ⟨st, r, v, d, p1, _, rfl, Dq.lasts (.of s1) hD, sq_dI h1, by have := cro_len cs gs; omega, fun H2 s2 => ⟨_, rfl, ?_⟩⟩⟩
    have s02 := s1.trans s2
    refine ite2 (fun hc => ?_) (fun hc => ?_)
    · have hc : rtB (rCro cs gs) d = false := by simpa using hc
      exact ⟨v, rfl, mkO1 fun dx nd => q1 hc _ dx s02 nd⟩
    have hc : rtB (rCro cs gs) d = true := by simpa using hc
    have hI2 := (TupK.of s02).dp _ _ (to_dInst _ _) hI
    refine ⟨v2, rfl, .ref i, rfl, i, cs, gs, rfl, hI2, ok, fun H3 p3 s3 h3 => ⟨st, r, v2, d2, p3, _, rfl, Dq.lasts (.of (s02.trans s3)) hD2, sq_dI h3, by have := unc_len cs gs; omega, fun H4 s4 => ⟨_, rfl, ?_⟩⟩⟩
    have s24 := s3.trans s4
    have s04 := s02.trans s24
    refine ite2 (fun hu => ?_) (fun hu => ?_)
    · have hu : rtB (rUnc cs gs) d2 = false := by simpa using hu
      exact ⟨v2, rfl, mkO1 fun dx nd => q2 hc hu _ dx s04 nd⟩
    have hu : rtB (rUnc cs gs) d2 = true := by simpa using hu
    obtain ⟨C, rfl, hC⟩ := rt_open hc
    obtain ⟨R, rfl, hR⟩ := rt_open hu
    obtain ⟨a, rfl, hA⟩ := dq_dI hD
    obtain ⟨b, rfl, hB⟩ := dq_dI hD2
    have lC : C.length ≤ 6 := by have := rt_len hc; have := cro_len cs gs; omega
    have lR : R.length ≤ 6 := by have := rt_len hu; have := unc_len cs gs; omega
    have hI4 := (TupK.of s24).dp _ _ (to_dInst _ _) hI2
    refine ⟨.ref i, rfl, i, cs, gs, rfl, hI4, ok, fun H5 o5 s5 h5 => ?_⟩
    refine ⟨.ref i, rfl, i, cs, gs, rfl, (TupK.of s5).dp _ _ (to_dInst _ _) hI4, ok, fun H6 o6 s6 h6 => ?_⟩
    have hO := sqS s6 (sq_dI h5)
    have hF := sq_dI h6
    have s06 := s04.trans (s5.trans s6)
    refine ⟨.ref a, rfl, a, rfl, ⟨_, sqS s06 hA⟩, fun S1 nS1 => lc_it (walk_tup (K := K) (a := a) (xs := C.map V.int)) (LcP H6 S1 C (fun p => some (.int (- spOf cs gs p)))) (.start nS1) (fun j H3 _ h => sqS (s06.trans h.1) hA) ?_ ?_⟩
    · rintro j x H7 H8 hj hL ⟨rfl, hx⟩
      have hx : (C.map V.int)[j]? = some x := hx
      rw [List.getElem?_map] at hx
      obtain ⟨p, hp, rfl⟩ := Option.map_eq_some_iff.mp hx
      obtain ⟨hpr, hlt⟩ := cro_mem.mp (hC p (List.mem_of_getElem? hp))
      have hjl := (List.getElem?_eq_some_iff.mp hp).1
      obtain ⟨pn, rfl⟩ : ∃ pn : Nat, p = pn := ⟨p.toNat, by omega⟩
      have hpn : pn < cs.length := by omega
      have hv := (exc_get (cs := cs) (gs := gs) hpn).1
      refine ⟨rfl, .ref o5, rfl, .int (pn : Nat), rfl, o5, _, _, _, rfl, rfl, sqS hL.1 hO, atI_nat (by rw [List.getElem?_map, List.getElem?_eq_getElem (by rw [rExc_len]; exact hpn)]; rfl), ?_⟩
      rw [hv]
      exact hL.yes nS1 (Same.refl _) hp (by unfold mx; rw [if_pos (by omega)]) (by omega)
    rintro H7 hL
    have e7 := hL.done (by rw [List.length_map]; omega)
    rw [fm_map] at e7
    have s07 := s06.trans hL.1
    refine ⟨S1, C.map (fun p => - spOf cs gs p), rfl, SqL.of (by rw [e7, List.map_map]; rfl), ?_⟩
    refine ⟨.ref i, rfl, .ref a, rfl, .ref b, rfl, i, a, b, cs, gs, C, R, rfl, (TupK.of s07).dp _ _ (to_dInst _ _) hI, ok, sqS s07 hA, sqS s07 hB, fun H8 s8 => ⟨_, _, rfl, rfl, ?_⟩⟩
    have s08 := s07.trans s8
    have hF8 := sqS (hL.1.trans s8) hF
    refine ⟨_, rfl, .ref b, rfl, b, rfl, ⟨_, sqS s08 hB⟩, fun S2 nS2 => lc_it (walk_tup (K := K) (a := b) (xs := R.map V.int)) (LcP H8 S2 R (fun p => some (.int (spOf cs gs p)))) (.start nS2) (fun j H3 _ h => sqS (s08.trans h.1) hB) ?_ ?_⟩
    · rintro j x H9 H10 hj hL ⟨rfl, hx⟩
      have hx : (R.map V.int)[j]? = some x := hx
      rw [List.getElem?_map] at hx
      obtain ⟨p, hp, rfl⟩ := Option.map_eq_some_iff.mp hx
      obtain ⟨hpr, hlt⟩ := unc_mem.mp (hR p (List.mem_of_getElem? hp))
      have hjl := (List.getElem?_eq_some_iff.mp hp).1
      obtain ⟨pn, rfl⟩ : ∃ pn : Nat, p = pn := ⟨p.toNat, by omega⟩
      have hpn : pn < cs.length := by omega
      have hv := (exc_get (cs := cs) (gs := gs) hpn).2
      refine ⟨rfl, .ref o6, rfl, .int (pn : Nat), rfl, o6, _, _, _, rfl, rfl, sqS hL.1 hF8, atI_nat (by rw [List.getElem?_map, List.getElem?_eq_getElem (by rw [rFre_len]; exact hpn)]; rfl), ?_⟩
      rw [hv]
      exact hL.yes nS2 (Same.refl _) hp (by unfold mx; rw [if_pos (by omega)]) (by omega)
    rintro H9 hL2
    have e9 := hL2.done (by rw [List.length_map]; omega)
    rw [fm_map] at e9
    refine ⟨S2, R.map (spOf cs gs), rfl, SqL.of (by rw [e9, List.map_map]; rfl), _, _, rfl, rfl, ?_⟩
    exact q3 C R rfl rfl hc hu _ (s08.trans hL2.1)
def spLk (K : PySem.W.Frag) : Sp := fun vs H Q _ => ∃ (st r i : Addr) (v v2 : V) (cs : List Int) (gs : List Gp) (d d2 : PyData), vs = [.ref i, v, v2] ∧ Dp K H (.ref i) (dInst cs gs) ∧ InsOk cs gs ∧ Dq K st r H v d ∧ Dq K st r H v2 d2 ∧ (H st ≠ none ∧ H r ≠ none) ∧
  ∀ H' p, Same H H' → Dq K st r H' (.ref p) (askD cs gs d d2) → Q (.ref p) H'
def tsLk (K : PySem.W.Frag) (cVE cNU cBP : Addr) (a : Addr) (cls : Value) (d : Option Addr) : TS :=
  tAsg (tLstS (tCons (tC (.str "bad")) (tCons (tXf a cls d cBP "value" (tVar 4)) (tCons (tAndV (tCB (rIsX K a cls d) (tCons (tVar 4) (tCons (tC (.ref cVE)) tNil))) (tAndV (tCB (rIsX K a cls d) (tCons (tVar 4) (tCons (tC (.ty "ValueError")) tNil))) (tNotV (tCB (rIsX K a cls d) (tCons (tVar 4) (tCons (tC (.ref cNU)) tNil)))))) tNil)))) (gName 3)
set_option maxHeartbeats 8000000 in
theorem ok_Lk {f fSf cVE cNU cBP fiBP : Addr} {fd fdSf : FuncData} (F : Fun K "_law_asked" "_law_asked" sLk f fd)
    (FSf : Fun K "shortfall" "shortfall" sSf fSf fdSf) (bSf : Binds K fdSf ["instance", "crowded", "reserves"] []) (gSf : mg "shortfall" = some (.ref fSf)) (GSf : FnOk P w K mg base (L2.CX P w) 6 fSf fdSf ["instance", "crowded", "reserves"] (spSf K cBP))
    (gBP : mg "BadPosts" = some (.ref cBP)) (gVE : mg "VoteError" = some (.ref cVE)) (gNU : mg "NoUnbeaten" = some (.ref cNU)) (IBP : IsC K cBP) (XBP : XF K cBP fiBP "value")
    (x1 : PySem.W.exmOne K (.ref cBP) (.ref cBP) = some true) (x2 : PySem.W.kitOne K (.ref cBP) (.ref cVE) = some true) (x3 : PySem.W.kitOne K (.ref cBP) (.type "ValueError") = some true) (x4 : PySem.W.kitOne K (.ref cBP) (.ref cNU) = some false)
    (m_isinstance : mg "isinstance" = none) (m_ValueError : mg "ValueError" = none) :
    FnOk P w K mg base CX0 7 f fd ["_law_instance", "_law_crowded", "_law_reserves"] (spLk K) := by
  refine F.ok scLk (fun vs H Q E h => ?_) (fun cdv A outer s H vs Q E hr h => ?_)
  · obtain ⟨st, r, i, v, v2, cs, gs, d, d2, rfl, _⟩ := h; rfl
  · obtain ⟨st, r, i, v, v2, cs, gs, d, d2, rfl, hI, ok, hD, hD2, oc, q⟩ := h
    refine ⟨_, pss_cons (ps_set (i := 3) scLk.nd rfl (.inl rfl) pe_non)
      (pss_cons (ps_try_as (i := 4) (tb := fun W => tAsg (tLstS (tCons (tC (.str "returned")) (tCons (tCallS (spSf K cBP) (WE W) (tCons (tVar 0) (tCons (tVar 1) (tCons (tVar 2) tNil)))) tNil))) (gName 3)) (ts := tsLk K cVE cNU cBP) (Wout := fun _ _ _ _ => False) rfl rfl scLk.nd rfl rfl ⟨rfl, by decide, Or.inl gBP⟩ takes0
        (fun W pn xe tk _ => pss_one (ps_set (i := 3) scLk.nd rfl (.inl rfl) (pe_lstS (pa_cons pe_str (pa_cons (by exact (pe_callS GSf (hr.mono (by omega)) rfl gSf FSf.kp bSf (fun σ => passAt tk σ) (by exact (pa_cons (pv 0) (pa_cons (pv 1) (pa_cons (pv 2) pa_nil)))))) pa_nil)))))
        (fun a oe cls d pn hz hf => by
          refine pss_one (ps_set (i := 3) scLk.nd rfl (.inl rfl) (pe_lstS (pa_cons pe_str (pa_cons (pe_xf XBP.rd XBP.no hz hf (pv 4)) (pa_cons (pe_and (pe_callB (call_isX hz hf) (by rfl) m_isinstance (by decide +kernel) (pa_cons (pv 4) (pa_cons (pe_glob (v := .ref cVE) (by rfl) gVE rfl) pa_nil)))
            (pe_and (pe_callB (call_isX hz hf) (by rfl) m_isinstance (by decide +kernel) (pa_cons (pv 4) (pa_cons (pe_bltn (v := .ty "ValueError") (by rfl) m_ValueError (by decide +kernel) rfl) pa_nil)))
            (pe_one (pe_not (pe_callB (call_isX hz hf) (by rfl) m_isinstance (by decide +kernel) (pa_cons (pv 4) (pa_cons (pe_glob (v := .ref cNU) (by rfl) gNU rfl) pa_nil))))))) pa_nil)))))))
      (pss_one (ps_ret (pv 3)))), ?_⟩
    have bad : ∀ (vx : V) (dv : PyData) (H2 : Hp), Same H H2 → Dq K st r H vx dv → askD cs gs d d2 = .list [.str "bad", dv, .bool true] → ∀ dx, H2 dx = none →
        wAs K (.ref cBP) 4 (tsLk K cVE cNU cBP) (fun _ _ _ _ => False) { nx := fun σ H' => tRet (tVar 3) { nx := fun _ H' => Q .non H', rt := Q } σ H', rt := Q } (.ref cBP) (some dx) [some (.ref i), some v, some v2, some .non, none] (upd H2 dx (.xd [("value", vx)])) := by
      intro vx dv H2 s2 hvx hj dx ndx
      refine ⟨true, x1, fun _ e ne => ?_, fun z => nomatch z⟩
      have sx := s2.trans (sameNew (o := .xd [("value", vx)]) ndx)
      refine ⟨.ref e, rfl, rfl, rfl, dx, _, _, rfl, upd_same, rfl, ?_⟩
      refine ⟨.ref e, rfl, cBP, .ref cVE, true, rfl, IBP, (fun _ z => by cases z; exact ⟨_, upd_same⟩), rfl, .inl ⟨_, .own _, x2⟩, _, rfl, iteT ?_⟩
      refine ⟨.ref e, rfl, cBP, .ty "ValueError", true, rfl, IBP, (fun _ z => by cases z; exact ⟨_, upd_same⟩), rfl, .inl ⟨_, .ty _, x3⟩, _, rfl, iteT ?_⟩
      refine ⟨.ref e, rfl, cBP, .ref cNU, false, rfl, IBP, (fun _ z => by cases z; exact ⟨_, upd_same⟩), rfl, .inl ⟨_, .own _, x4⟩, _, rfl, (show (3 : Nat) ≤ sizeLine by decide), fun p np ns => ?_⟩
      have hn := occ_ne (occ oc sx) np
      refine ⟨_, rfl, q _ p (sx.trans (sameNew np)) ?_⟩
      rw [hj]
      exact .lst upd_same hn.1 hn.2 ns (.cons (.str _) (.cons (Dq.lasts (.of (sx.trans (sameNew np))) hvx) (.cons (.bl _) .nil)))
    refine ⟨.ref i, rfl, v, rfl, v2, rfl, st, r, i, v, v2, cs, gs, d, d2, rfl, hI, ok, hD, hD2, fun hc H2 dx s2 nd => ?_, fun hc hu H2 dx s2 nd => ?_, fun C R e1 e2 hc hu H2 s2 => ?_⟩
    · exact bad v d H2 s2 hD (by unfold askD; rw [hc]; rfl) dx nd
    · exact bad v2 d2 H2 s2 hD2 (by unfold askD; rw [hc, hu]; rfl) dx nd
    · refine ⟨(show (2 : Nat) ≤ sizeLine by decide), fun p np ns => ⟨_, rfl, q _ p (s2.trans (sameNew np)) ?_⟩⟩
      have hn := occ_ne (occ oc s2) np
      have : askD cs gs d d2 = .list [.str "returned", .int (sfOf C R cs gs)] := by
        unfold askD sfD
        rw [hc, hu, e1, e2]
        simp only [dI, intsOf, intsAll_ints]
        rfl
      rw [this]
      exact .lst upd_same hn.1 hn.2 ns (.cons (.str _) (.cons (.int _) .nil))
end
end Pv

namespace Pv
open PySem PySem.Spec PyProof.Rows L2
abbrev sCh : Stmt := topS 33
theorem scCh : FnScope ["_law_deck_here", "_law_row", "_law_others", "_law_some"] ["_law_deck_here", "_law_row", "_law_others"] (defScope sCh) := ⟨rfl, rfl, rfl, by decide +kernel, rfl, by decide +kernel, by decide +kernel⟩
abbrev sIr : Stmt := topS 34
theorem scIr : FnScope ["_law_value", "_law_posts", "_law_one"] ["_law_value", "_law_posts"] (defScope sIr) := ⟨rfl, rfl, rfl, by decide +kernel, rfl, by decide +kernel, by decide +kernel⟩
def rNeNilL (K : PySem.W.Frag) : R2 := fun x y H Q => ∃ (a b : Addr) (xs : List V), x = .ref a ∧ y = .ref b ∧ SqL K H a xs ∧ SqL K H b [] ∧ Q (.bl (!xs.isEmpty)) H
theorem op_neNilL {X : Cx} (hu : X.A.units < cLine) : OpR X (compareOp .NotEq) (rNeNilL X.K) := by
  intro pins s σ H x y v u Q I rx ry h
  obtain ⟨a, b, xs, rfl, rfl, ha, hb, q⟩ := h
  cases rx
  cases ry
  obtain ⟨its, r1, p1, z1⟩ := I.list ha
  obtain ⟨its2, r2, p2, z2⟩ := I.list hb
  cases r2
  cases xs with
  | nil =>
    cases r1
    exact SeqAt.RcNeAt.lists (e := fun _ => true) p1.isList p2.isList rfl hu (fun j h1 _ => absurd h1 (Nat.not_lt_zero _)) X.prog X.w _ _ ⟨.bl false, H, I, rfl, q⟩
  | cons x xs =>
    have hl := r1.length
    exact SeqAt.RcNeAt.lists_lengths p1.isList p2.isList (by rw [List.size_toArray, ← hl]; rfl) hu X.prog X.w _ _ ⟨.bl true, H, I, rfl, q⟩
theorem cutInts (C : List Int) (lo hi : Option Int) : ∃ Z : List Int, cutV (C.map V.int) lo hi = Z.map V.int ∧ (∀ z ∈ Z, z ∈ C) ∧ Z.length ≤ C.length := by
  unfold cutV
  rw [← List.map_drop, ← List.map_take]
  exact ⟨_, rfl, fun z hz => List.mem_of_mem_drop (List.mem_of_mem_take hz), by rw [List.length_take, List.length_drop]; omega⟩
theorem dq_ints {K : PySem.W.Frag} {st r : Addr} {H : Hp} : ∀ ns : List Int, DqAll K st r H (ns.map V.int) (ns.map PyData.int)
  | [] => .nil
  | n :: ns => .cons (.int n) (dq_ints ns)
theorem dq_cat {K : PySem.W.Frag} {st r : Addr} {H : Hp} (C : List Int) : DqAll K st r H (C.map V.int ++ [V.non]) (C.map PyData.int ++ [PyData.none]) := (dq_ints C).app (.cons .non .nil)
theorem fm_out (ps zs : List Int) : zs.filterMap (fun z => if ps.contains z = true then none else some (V.int z)) = (zs.filter (fun z => !ps.contains z)).map V.int := by
  induction zs with
  | nil => rfl
  | cons z zs ih =>
    rw [List.filterMap_cons, List.filter_cons]
    cases h : ps.contains z
    · simp only [Bool.false_eq_true, if_false, Bool.not_false, if_true, List.map_cons]; rw [ih]
    · simp only [if_true, Bool.not_true, Bool.false_eq_true, if_false]; exact ih
theorem all_in (ps zs : List Int) : ((zs.filter (fun z => !ps.contains z)).map PyData.int).isEmpty = zs.all ps.contains := by
  induction zs with
  | nil => rfl
  | cons z zs ih =>
    rw [List.filter_cons, List.all_cons, ← ih]
    cases h : ps.contains z <;> simp
theorem wholes_ints : ∀ {ds : List PyData}, (∀ d ∈ ds, wholeD d = true) → ∃ zs, intsAll ds = some zs
  | [], _ => ⟨[], rfl⟩
  | d :: ds, h => by
    obtain ⟨zs, e⟩ := wholes_ints (ds := ds) fun d hd => h d (List.mem_cons_of_mem _ hd)
    have := h d (List.mem_cons_self ..)
    cases d with
    | int i => exact ⟨i :: zs, by simp [intsAll, e]⟩
    | _ => simp [wholeD, isInt, isBool] at this
def shB (d : PyData) : Bool := match d with | .tuple ds => decide (ds.length ≤ 50) | _ => true
def tLitsT (K : PySem.W.Frag) (ds : List PyData) (t : TA) : TA := fun σ H Q => ∃ st r, (H st ≠ none ∧ H r ≠ none) ∧ ∀ H' vs, Same H H' → DqAll K st r H' vs ds → t σ H' (fun ws H2 => Q (vs ++ ws) H2)
section
variable {X : Cx} {e : Expr} {es : List Expr} {d : PyData} {ds : List PyData} {t : TA}
theorem litsT_end (h : PA X es t) : PA X es (tLitsT X.K [] t) := pa_mono h fun σ H Q ⟨st, r, _, q⟩ => q H [] (Same.refl H) .nil
theorem litsT_cons (h : PE X e (tLit X.K d)) (hs : PA X es (tLitsT X.K ds t)) (hq : starEach (e :: es) X.env = (false, eval e X.env) :: starEach es X.env := by rfl) : PA X (e :: es) (tLitsT X.K (d :: ds) t) :=
  pa_mono (pa_cons h hs hq) fun σ H Q ⟨st, r, oc, q⟩ => ⟨st, r, oc, fun H1 v s1 d1 => ⟨st, r, occ oc s1, fun H2 vs s2 d2 => q H2 (v :: vs) (s1.trans s2) (.cons (d1.lasts (.of s2)) d2)⟩⟩
end
mutual
theorem fitBok {M : Nat} : ∀ {d : PyData}, fitB M 400 d = true → fit M d
  | .none, _ => by simp [fit]
  | .bool _, _ => by simp [fit]
  | .int i, h => by simp only [fitB, decide_eq_true_eq] at h; simpa only [fit] using h
  | .str x, h => by simp only [fitB, decide_eq_true_eq] at h; simpa only [fit] using h
  | .list xs, h => by simp only [fitB] at h; simp only [fit]; exact fitAllBok h
  | .tuple xs, h => by simp only [fitB] at h; simp only [fit]; exact fitAllBok h
  | .dict kvs, h => by simp only [fitB, Bool.and_eq_true, decide_eq_true_eq] at h; simp only [fit]; exact h
theorem fitAllBok {M : Nat} : ∀ {xs : List PyData}, fitAllB M 400 xs = true → fitAll M xs
  | [], _ => by simp [fitAll]
  | x :: xs, h => by simp only [fitAllB, Bool.and_eq_true] at h; simp only [fitAll]; exact ⟨fitBok h.1, fitAllBok h.2⟩
end
theorem fitLit {d : PyData} (h1 : fitB 1000 400 d = true) (h2 : d.depth ≤ 3) (h3 : wt d ≤ 2000) : Fit 1000 3 2000 d := ⟨fitBok h1, h2, h3⟩
section
variable {P : Program} {w : World} {K : PySem.W.Frag} {mg : Str → Option Value} {base : Heap}
def spCh (K : PySem.W.Frag) : Sp := fun vs H Q _ => ∃ (st c r a o : Addr) (t : Nat) (C O : List Int), vs = [.ref st, .ref a, .ref o] ∧ DU H st c r t ∧ t + 10 ≤ 900000 ∧ SqT K H a (C.map V.int) ∧ H o = some (.lst (O.map V.int)) ∧ (C.length ≤ 6 ∧ ∀ x ∈ C, 0 ≤ x ∧ x < 6) ∧ (O.length ≤ 6 ∧ ∀ x ∈ O, 0 ≤ x ∧ x < 6) ∧
  ∀ H' v d, DU H' st c r (t + 1) → Ext st r H H' → Dq K st r H' v d → Fit 1000 3 2000 d → shB d = true → Q v H'
set_option maxHeartbeats 8000000 in
theorem ok_Ch {f fDr : Addr} {fd fdDr : FuncData} (F : Fun K "_law_changed" "_law_changed" sCh f fd)
    (FDr : Fun K "_law_draw" "_law_draw" sDr fDr fdDr) (bDr : Binds K fdDr ["_law_deck_here", "_law_many"] []) (gDr : mg "_law_draw" = some (.ref fDr)) (GDr : FnOk P w K mg base CX0 1 fDr fdDr ["_law_deck_here", "_law_many"] spDraw)
    (m_list : mg "list" = none) (m_tuple : mg "tuple" = none) (m_sorted : mg "sorted" = none) (m_len : mg "len" = none) :
    FnOk P w K mg base CX0 2 f fd ["_law_deck_here", "_law_row", "_law_others"] (spCh K) := by
  refine F.ok scCh (fun vs H Q E h => ?_) (fun cdv A outer s H vs Q E hr h => ?_)
  · obtain ⟨st, c, r, a, o, t, C, O, rfl, _⟩ := h; rfl
  · obtain ⟨st, c, r, a, o, t, C, O, rfl, hd, ht, hA, hO, hC, hOb, q⟩ := h
    refine ⟨_, pss_cons (ps_set (i := 3) scCh.nd rfl (.inl rfl) (pe_lst (pa_cons (pe_revT (pv 1)) (pa_cons (pe_op op_catA (pv 1) (pe_slice sl_tupA (pv 1) (po_some (pe_un un_neg (pe_int))) po_none)) (pa_cons (pe_op op_catA (pv 1) (pe_tup (pa_cons (pe_int) pa_nil))) (pa_cons (pe_op op_catA (pe_tup (pa_cons (pe_un un_neg (pe_int)) pa_nil)) (pv 1)) (pa_cons (pe_callTy call_listS (by rfl) m_list (by decide +kernel) (pa_cons (pv 1) pa_nil)) (pa_cons (pe_callTy call_tupQ (by rfl) m_tuple (by decide +kernel) (pa_cons (pe_callB cr_sortedT (by rfl) m_sorted (by decide +kernel) (pa_cons (pe_op op_catA (pv 1) (pe_callTy call_tupQ (by rfl) m_tuple (by decide +kernel) (pa_cons (pe_slice sl_list (pv 2) po_none (po_some (pe_int))) pa_nil))) pa_nil)) pa_nil)) pa_nil))))))))
      (pss_cons (ps_set (i := 3) scCh.nd rfl (.inl rfl) (pe_op op_cat (pv 3) (pe_lst (litsT_cons (lit_tup (lits_cons (lit_bl pe_bl) lits_nil) (by decide)) (litsT_cons (lit_tup (lits_cons (lit_bl pe_bl) lits_nil) (by decide)) (litsT_cons (lit_tup (lits_cons (lit_tup (lits_cons (lit_int pe_int) lits_nil) (by decide)) lits_nil) (by decide)) (litsT_cons (lit_non pe_non) (litsT_cons (lit_int pe_int) (litsT_cons (lit_bl pe_bl) (litsT_cons (lit_str pe_str) (litsT_cons (lit_tup lits_nil (by decide)) (litsT_cons lit_dict (litsT_cons (lit_lst lits_nil (by decide)) (litsT_cons (lit_tup (lits_cons (lit_str pe_str) lits_nil) (by decide)) (litsT_end (pa_cons (pe_op op_catA (pv 1) (pe_tup (pa_cons (pe_non) pa_nil))) pa_nil))))))))))))))))
      (pss_one (ps_ret (pe_ix ix_list (pv 3) (pe_call GDr (hr.mono (by omega)) (by rfl) gDr FDr.kp bDr .nil pass0 (pa_cons (pv 0) (pa_cons (pe_callB call_lenQ (by rfl) m_len PySem.boot_len (pa_cons (pv 3) pa_nil)) pa_nil))) (fun _ _ => rfl))))), ?_⟩
    have cI : ∀ {xs : List Int}, (∀ x ∈ xs, x.natAbs ≤ 100) → xs.length ≤ 20 → Fit 1000 3 2000 (dI xs) ∧ shB (dI xs) = true := fun h1 h2 => ⟨(fit_dI h1).mono (by decide) (by decide) (by omega), by simp only [dI, shB, List.length_map, decide_eq_true_eq]; omega⟩
    have lC := hC.1
    have lO := hOb.1
    have bC : ∀ x ∈ C, x.natAbs ≤ 100 := fun x hx => by have := hC.2 x hx; omega
    -- turned round
    refine ⟨.ref a, rfl, a, _, rfl, hA, fun p1 n1 => ?_⟩
    have s1 := sameNew (o := .tup (C.map V.int).reverse) n1
    have h1 : SqT K (upd H p1 (.tup (C.map V.int).reverse)) p1 (C.reverse.map V.int) := by rw [List.map_reverse]; exact SqT.of upd_same
    generalize upd H p1 (.tup (C.map V.int).reverse) = H1 at s1 h1 ⊢
    -- its last twice
    refine ⟨.ref a, rfl, .ref a, rfl, 1, rfl, _, rfl, ?_⟩
    dsimp only [tNoPart]
    refine slAny (K := K) (lo := some (-1)) (hi := none) (sqS s1 hA) (fun H2 b2 s2 hb2 => ?_)
    obtain ⟨Z, hZ, mZ, lZ⟩ := cutInts C (some (-1)) none
    rw [hZ] at hb2
    refine cat_eq (sqS (s1.trans s2) hA) hb2 (by rw [List.length_map, List.length_map]; exact small6 (by omega)) (fun H3 p3 s3 h3 => ?_)
    rw [← List.map_append] at h3
    have s03 := s1.trans (s2.trans s3)
    -- one more
    refine ⟨.ref a, rfl, (show (1 : Nat) ≤ sizeLine by decide), fun N4 n4 => cat_eq (sqS (s03.trans (sameNew n4)) hA) (SqT.of upd_same) (by rw [List.length_map]; exact small6 (by simp; omega)) (fun H5 p5 s5 h5 => ?_)⟩
    have h5 : SqT K H5 p5 ((C ++ [99]).map V.int) := by rw [List.map_append]; exact h5
    have s35 := (sameNew (o := .tup [.int 99]) n4).trans s5
    have s05 := s03.trans s35
    -- one before
    refine ⟨1, rfl, (show (1 : Nat) ≤ sizeLine by decide), fun N6 n6 => ⟨.ref a, rfl, cat_eq (SqT.of upd_same) (sqS (s05.trans (sameNew n6)) hA) (by rw [List.length_map]; exact small6 (by simp; omega)) (fun H7 p7 s7 h7 => ?_)⟩⟩
    have h7 : SqT K H7 p7 ((-1 :: C).map V.int) := h7
    have s57 := (sameNew (o := .tup [.int (-1)]) n6).trans s7
    have s07 := s05.trans s57
    -- as a list
    refine ⟨.ref a, rfl, a, _, rfl, sqS s07 hA, fun p8 n8 m8 => ?_⟩
    have s8 := sameNew (o := .lst (C.map V.int)) n8
    have o8 := (hd.same s07).off n8
    have e8 : (upd H7 p8 (.lst (C.map V.int))) p8 = some (.lst (C.map V.int)) := upd_same
    generalize upd H7 p8 (.lst (C.map V.int)) = H8 at s8 e8 ⊢
    have s08 := s07.trans s8
    -- sorted with another
    refine ⟨.ref a, rfl, .ref o, rfl, 1, rfl, o, _, rfl, SqL.of (s08 _ _ hO), fun p9 n9 => ?_⟩
    rw [show cutV (O.map V.int) none (some 1) = (O.map V.int).take 1 from cut_to _ 1, ← List.map_take]
    have s9 := sameNew (o := .lst ((O.take 1).map V.int)) n9
    refine ⟨p9, _, rfl, .inl ⟨SqL.of upd_same, fun p10 n10 => ?_⟩⟩
    have s10 := sameNew (o := .tup ((O.take 1).map V.int)) n10
    have s010 := s08.trans (s9.trans s10)
    have lT : (O.take 1).length ≤ 1 := by rw [List.length_take]; omega
    refine cat_eq (sqS s010 hA) (SqT.of upd_same) (by rw [List.length_map, List.length_map]; exact small6 (by omega)) (fun H11 p11 s11 h11 => ?_)
    rw [← List.map_append] at h11
    refine ⟨p11, C ++ O.take 1, rfl, h11, by rw [List.length_append]; omega, fun ns p12 hpm _ n12 => ⟨p12, _, rfl, .inl ⟨SqL.of upd_same, fun p13 n13 => ?_⟩⟩⟩
    have s13 := (sameNew (o := .lst (ns.map V.int)) n12).trans (sameNew (o := .tup (ns.map V.int)) n13)
    have h13 : SqT K (upd (upd H11 p12 (.lst (ns.map V.int))) p13 (.tup (ns.map V.int))) p13 (ns.map V.int) := SqT.of upd_same
    generalize upd (upd H11 p12 (.lst (ns.map V.int))) p13 (.tup (ns.map V.int)) = H13 at s13 h13 ⊢
    have s813 := s9.trans (s10.trans (s11.trans s13))
    have s013 := s08.trans s813
    have lns : ns.length ≤ 7 := by rw [hpm.length_eq, List.length_append]; omega
    have bns : ∀ x ∈ ns, x.natAbs ≤ 100 := fun x hx => by
      rcases List.mem_append.mp (hpm.mem_iff.mp hx) with h | h
      · exact bC x h
      · have := hOb.2 x (List.mem_of_mem_take h); omega
    -- the first list
    refine ⟨(show (6 : Nat) ≤ sizeLine by decide), fun L1 nL1 => ?_⟩
    have sL := sameNew (o := .lst [.ref p1, .ref p3, .ref p5, .ref p7, .ref p8, .ref p13]) nL1
    have eL : (upd H13 L1 (.lst [.ref p1, .ref p3, .ref p5, .ref p7, .ref p8, .ref p13])) L1 = some (.lst [.ref p1, .ref p3, .ref p5, .ref p7, .ref p8, .ref p13]) := upd_same
    generalize upd H13 L1 (.lst [.ref p1, .ref p3, .ref p5, .ref p7, .ref p8, .ref p13]) = H14 at sL eL ⊢
    have s014 := s013.trans sL
    have w : ∀ {Hx p} {ns : List Int}, SqT K Hx p (ns.map V.int) → Same Hx H14 → Dq K st r H14 (.ref p) (dI ns) := fun h s => .tup (sqS s h) (dq_ints _)
    have hL1 : DqAll K st r H14 [V.ref p1, .ref p3, .ref p5, .ref p7, .ref p8, .ref p13] [dI C.reverse, dI (C ++ Z), dI (C ++ [99]), dI (-1 :: C), .list (C.map PyData.int), dI ns] :=
      .cons (w h1 ((s2.trans s3).trans (s35.trans (s57.trans (s8.trans (s813.trans sL)))))) (.cons (w h3 (s35.trans (s57.trans (s8.trans (s813.trans sL))))) (.cons (w h5 (s57.trans (s8.trans (s813.trans sL)))) (.cons (w h7 (s8.trans (s813.trans sL))) (.cons (.lst ((s813.trans sL) _ _ e8) o8.1 o8.2.2 m8 (dq_ints _)) (.cons (w h13 sL) .nil)))))
    -- the second
    have oc14 := (hd.same s014).occ
    refine ⟨.ref L1, rfl, st, r, oc14, fun H15 ws s15 hW => ?_⟩
    refine ⟨.ref a, rfl, (show (1 : Nat) ≤ sizeLine by decide), fun N16 n16 => cat_eq (sqS ((s014.trans s15).trans (sameNew n16)) hA) (SqT.of upd_same) (by rw [List.length_map]; exact small6 (by simp; omega)) (fun H17 p17 s17 h17 => ?_)⟩
    have s1517 := (sameNew (o := .tup [.non]) n16).trans s17
    have lW := DqAll.len hW
    have lW : ws.length = 11 := lW
    refine ⟨small6 (by rw [List.length_append, lW]; simp), fun L2 nL2 => ?_⟩
    have sL2 := sameNew (o := .lst (ws ++ [V.ref p17])) nL2
    have s1418 := s15.trans (s1517.trans sL2)
    refine ⟨L1, L2, _, _, rfl, rfl, s1418 _ _ eL, upd_same, small6 (by simp [lW]), fun L3 nL3 => ?_⟩
    have sL3 := sameNew (o := .lst ([V.ref p1, .ref p3, .ref p5, .ref p7, .ref p8, .ref p13] ++ (ws ++ [V.ref p17]))) nL3
    have s019 := s014.trans (s1418.trans sL3)
    have o3 := (hd.same (s014.trans s1418)).off nL3
    have hAll := (hL1.lasts (.of (s1418.trans sL3))).app ((hW.lasts (.of (s1517.trans (sL2.trans sL3)))).app (.cons (.tup (sqS (sL2.trans sL3) h17) (dq_cat C)) .nil))
    have e3 : (upd (upd H17 L2 (.lst (ws ++ [V.ref p17]))) L3 (.lst ([V.ref p1, .ref p3, .ref p5, .ref p7, .ref p8, .ref p13] ++ (ws ++ [V.ref p17])))) L3 = some (.lst ([V.ref p1, .ref p3, .ref p5, .ref p7, .ref p8, .ref p13] ++ (ws ++ [V.ref p17]))) := upd_same
    generalize upd (upd H17 L2 (.lst (ws ++ [V.ref p17]))) L3 (.lst ([V.ref p1, .ref p3, .ref p5, .ref p7, .ref p8, .ref p13] ++ (ws ++ [V.ref p17]))) = H19 at s019 hAll e3 ⊢
    have l3 : ([V.ref p1, .ref p3, .ref p5, .ref p7, .ref p8, .ref p13] ++ (ws ++ [V.ref p17])).length = 18 := by simp [lW]
    generalize ([V.ref p1, .ref p3, .ref p5, .ref p7, .ref p8, .ref p13] ++ (ws ++ [V.ref p17])) = us at hAll e3 l3 ⊢
    have D19 := hd.same s019
    refine ⟨.ref L3, rfl, .ref st, rfl, .ref L3, rfl, L3, _, rfl, .inl (SqL.of e3), st, c, r, t, _, rfl, D19, by omega, by rw [l3]; decide, by rw [l3]; decide, fun H20 k k0 k1 D20 X20 => ?_⟩
    rw [l3] at k1
    obtain ⟨kn, rfl⟩ : ∃ kn : Nat, k = kn := ⟨k.toNat, by omega⟩
    have hkn : kn < us.length := by omega
    have hul := List.getElem?_eq_getElem hkn
    refine ⟨L3, _, _, us[kn], rfl, rfl, SqL.of (X20 _ _ e3 o3.1 o3.2.2), atI_nat hul, ?_⟩
    obtain ⟨dd, hdd, hdq⟩ := DqAll.at (hAll.lasts (D19.lasts X20)) hul
    suffices hb : Fit 1000 3 2000 dd ∧ shB dd = true from q _ _ dd D20 ((Ext.of s019).trans X20) hdq hb.1 hb.2
    have hm := List.mem_of_getElem? hdd
    clear hdd hdq hAll hW hL1 w
    simp only [List.mem_append, List.mem_cons, List.not_mem_nil, or_false] at hm
    rcases hm with (rfl | rfl | rfl | rfl | rfl | rfl) | (rfl | rfl | rfl | rfl | rfl | rfl | rfl | rfl | rfl | rfl | rfl) | rfl
    · exact cI (fun x hx => bC x (List.mem_reverse.mp hx)) (by rw [List.length_reverse]; omega)
    · refine cI (fun x hx => ?_) (by rw [List.length_append]; omega)
      rcases List.mem_append.mp hx with h | h
      · exact bC x h
      · exact bC x (mZ x h)
    · refine cI (fun x hx => ?_) (by rw [List.length_append]; simp; omega)
      rcases List.mem_append.mp hx with h | h
      · exact bC x h
      · simp at h; subst h; decide
    · refine cI (fun x hx => ?_) (by rw [List.length_cons]; omega)
      rcases List.mem_cons.mp hx with rfl | h
      · decide
      · exact bC x h
    · have := cI bC (by omega)
      exact ⟨⟨by simpa only [fit, dI] using this.1.ok, by simpa only [PyData.depth, dI] using this.1.dp, by simpa only [Pv.wt, dI] using this.1.wt⟩, rfl⟩
    · exact cI bns (by omega)
    all_goals first | exact ⟨fitLit (by decide +kernel) (by decide +kernel) (by decide +kernel), by decide +kernel⟩ | skip
    · refine ⟨Fit.tup (fun d hd => ?_) (by decide) ?_, by simp only [shB, List.length_append, List.length_map, decide_eq_true_eq, List.length_singleton]; omega⟩
      · rcases List.mem_append.mp hd with h | h
        · obtain ⟨x, hx, rfl⟩ := List.mem_map.mp h
          exact ⟨by have := bC x hx; simp only [fit]; omega, by simp [PyData.depth]⟩
        · simp at h; subst h; exact ⟨by simp only [fit], by simp [PyData.depth]⟩
      · have hw : wtAll (C.map PyData.int) + 3 ≤ C.length * 42 + 3 := by have := (fit_dI bC).wt; simpa only [Pv.wt, dI] using this
        rw [wtAll_app]
        have : wtAll [PyData.none] = 42 := rfl
        omega
def spIr (K : PySem.W.Frag) : Sp := fun vs H Q _ => ∃ (st r : Addr) (v : V) (d : PyData) (o : Addr) (ps : List Int), vs = [v, .ref o] ∧ Dq K st r H v d ∧ H o = some (.lst (ps.map V.int)) ∧ (∀ ds, d = .tuple ds → ds.length ≤ 50) ∧ ∀ H', Same H H' → Q (.bl (rtB ps d)) H'
set_option maxHeartbeats 8000000 in
theorem ok_Ir {f : Addr} {fd : FuncData} (F : Fun K "_law_is_right" "_law_is_right" sIr f fd)
    (m_tuple : mg "tuple" = none) (m_isinstance : mg "isinstance" = none) (m_bool : mg "bool" = none) (m_int : mg "int" = none) (m_list : mg "list" = none) (m_set : mg "set" = none) (m_sorted : mg "sorted" = none) :
    FnOk P w K mg base CX0 1 f fd ["_law_value", "_law_posts"] (spIr K) := by
  refine F.ok scIr (fun vs H Q E h => ?_) (fun cdv A outer s H vs Q E hr h => ?_)
  · obtain ⟨st, r, v, d, o, ps, rfl, _⟩ := h; rfl
  · obtain ⟨st, r, v, d, o, ps, rfl, hD, hO, hl, q⟩ := h
    have hu64 : (A.deeper (envOfC "_law_is_right" (defScope sIr) s.heap.objs.size f cdv)).units + 64 < cLine := by have := hr.un; omega
    have hu0 : (A.deeper (envOfC "_law_is_right" (defScope sIr) s.heap.objs.size f cdv)).units < cLine := by have := hr.un; omega
    refine ⟨_, pss_cons (ps_if (PW.pt (pw_or (pt_not (pt_val (pe_callB call_isi (by rfl) m_isinstance (by decide +kernel) (pa_cons (pv 0) (pa_cons (pe_bltn (v := .ty "tuple") (by rfl) m_tuple (by decide +kernel) rfl) pa_nil))))) (pw_or1 (pt_cmpR (op_neNilL hu0) (pe_lc (own := [("_law_one", 2)]) (g := gName 2) (tt := tOr (tB (tCB (rIsi K) (tCons (tVar 2) (tCons (tC (.ty "bool")) tNil)))) (tNot (tB (tCB (rIsi K) (tCons (tVar 2) (tCons (tC (.ty "int")) tNil)))))) (te := tVar 2) rfl scIr.nd (pi_tup (pv 0)) (blkOk_by (N := ["_law_value", "_law_posts", "_law_one"]) (sc := defScope sIr) (by decide +kernel)) (fun _ _ _ _ _ => pg_name (i := 2) scIr.nd rfl (.inl rfl)) (fun _ _ _ _ _ => pts_one (PW.pt (pw_or (pt_val (pe_callB call_isi (by rfl) m_isinstance (by decide +kernel) (pa_cons (pv 2) (pa_cons (pe_bltn (v := .ty "bool") (by rfl) m_bool (by decide +kernel) rfl) pa_nil)))) (pw_or1 (pt_not (pt_val (pe_callB call_isi (by rfl) m_isinstance (by decide +kernel) (pa_cons (pv 2) (pa_cons (pe_bltn (v := .ty "int") (by rfl) m_int (by decide +kernel) rfl) pa_nil))))))))) (fun _ _ _ _ _ => pv 2)) (pe_lst (pa_nil)) (nomark _)))))
        (pss_one (ps_ret (pe_bl))) pss_nil)
      (pss_one (ps_ret (pe_and (pe_cmpR (op_eqD hu64) (pe_lc (own := [("_law_one", 2)]) (g := gName 2) (tt := tTest (tOp (rIn K true) (tVar 2) (tVar 1))) (te := tVar 2) rfl scIr.nd (pi_tup (pv 0)) (blkOk_by (N := ["_law_value", "_law_posts", "_law_one"]) (sc := defScope sIr) (by decide +kernel)) (fun _ _ _ _ _ => pg_name (i := 2) scIr.nd rfl (.inl rfl)) (fun _ _ _ _ _ => pts_one (pt_cmpR op_notIn_seq (pv 2) (pv 1) (by rfl))) (fun _ _ _ _ _ => pv 2)) (pe_lst (pa_nil)) (nomark _)) (pe_one (pe_cmpR (op_eqD hu64) (pe_callTy call_list_of (by rfl) m_list (by decide +kernel) (pa_cons (pv 0) pa_nil)) (pe_callB (cr_sortedSet rfl) (by rfl) m_sorted (by decide +kernel) (pa_cons (pe_callTy (cr_setT rfl) (by rfl) m_set (by decide +kernel) (pa_cons (pv 0) pa_nil)) pa_nil)) (nomark _)))))), ?_⟩
    refine ⟨v, rfl, v, .ty "tuple", _, _, _, rfl, .ty _, hD.ty, kit_tup d, _, rfl, ite2 (fun h1 => ?_) (fun h1 => ?_)⟩
    · refine iteT ?_
      have : rtB ps d = false := by
        cases d with
        | tuple ds => simp [isTup] at h1
        | _ => rfl
      rw [← this]
      exact q _ (Same.refl _)
    obtain ⟨ds, rfl⟩ : ∃ ds, d = .tuple ds := by
      cases d with
      | tuple ds => exact ⟨ds, rfl⟩
      | _ => simp [isTup] at h1
    have hl := hl ds rfl
    obtain ⟨a, xs, rfl, hA, hX⟩ : ∃ a xs, v = .ref a ∧ SqT K H a xs ∧ DqAll K st r H xs ds := by cases hD with | tup h1 h2 => exact ⟨_, _, rfl, h1, h2⟩
    have lxs : xs.length = ds.length := DqAll.len hX
    refine ⟨.ref a, rfl, a, rfl, ⟨_, hA⟩, fun D nD => lc_it (walk_tup (K := K) (a := a) (xs := xs)) (LcP H D (xs.zip ds) (fun z => if wholeD z.2 = true then none else some z.1)) (.start nD) (fun j H3 _ h => sqS h.1 hA) ?_ ?_⟩
    · rintro j x H3 H4 hj hL ⟨rfl, hx⟩
      have hx : xs[j]? = some x := hx
      obtain ⟨d, hd, hxd⟩ := DqAll.at hX hx
      have hxd := Dq.lasts (.of hL.1) hxd
      have hjs : j ≤ 1000000 := by omega
      have hz : (xs.zip ds)[j]? = some (x, d) := List.getElem?_zip_eq_some.mpr ⟨hx, hd⟩
      refine ⟨rfl, x, rfl, x, .ty "bool", _, _, _, rfl, .ty _, hxd.ty, kit_bool d, _, rfl, ite2 (fun h2 => ?_) (fun h2 => ?_)⟩
      · refine iteT ?_
        exact ⟨_, rfl, hL.yes nD (Same.refl _) hz (if_neg (by simp [wholeD, h2])) hjs⟩
      · refine ⟨x, rfl, x, .ty "int", _, _, _, rfl, .ty _, hxd.ty, kit_int d, _, rfl, ite2 (fun h3 => ?_) (fun h3 => ?_)⟩
        · have h3 : isInt d = false := by simpa using h3
          exact ⟨_, rfl, hL.yes nD (Same.refl _) hz (if_neg (by simp [wholeD, h3])) hjs⟩
        · have h3 : isInt d = true := by simpa using h3
          have h2 : isBool d = false := by simpa using h2
          exact hL.no (Same.refl _) hz (if_pos (by simp [wholeD, h3, h2]))
    rintro H3 hL
    have e3 := hL.done (by rw [List.length_zip]; omega)
    have s3 := hL.1
    refine ⟨Nat.zero_le _, fun Z nZ => ⟨D, Z, _, rfl, rfl, SqL.of (upNew nZ e3), SqL.of upd_same, _, rfl, ?_⟩⟩
    have sZ := s3.trans (sameNew (o := .lst []) nZ)
    generalize upd H3 Z (.lst []) = H4 at sZ ⊢
    refine ite2 (fun h2 => ?_) (fun h2 => ?_)
    · have : rtB ps (.tuple ds) = false := by
        unfold rtB
        simp only [intsOf]
        cases e : intsAll ds with
        | none => rfl
        | some zs =>
          exfalso
          have ed := intsAll_eq e
          have : (xs.zip ds).filterMap (fun z => if wholeD z.2 = true then none else some z.1) = [] := by
            rw [List.filterMap_eq_nil_iff]
            intro z hz
            have := (List.of_mem_zip hz).2
            rw [ed] at this
            obtain ⟨i, _, hi⟩ := List.mem_map.mp this
            rw [← hi]; rfl
          rw [this] at h2
          cases h2
      rw [← this]
      exact q _ sZ
    obtain ⟨zs, ez⟩ : ∃ zs, intsAll ds = some zs := by
      refine wholes_ints fun d hd => ?_
      have h2 : (xs.zip ds).filterMap (fun z => if wholeD z.2 = true then none else some z.1) = [] := by simpa using h2
      rw [List.filterMap_eq_nil_iff] at h2
      obtain ⟨j, hj⟩ := List.getElem?_of_mem hd
      have hjl := (List.getElem?_eq_some_iff.mp hj).1
      have hz : (xs.zip ds)[j]? = some (xs[j], d) := List.getElem?_zip_eq_some.mpr ⟨List.getElem?_eq_getElem (by omega), hj⟩
      have := h2 _ (List.mem_of_getElem? hz)
      by_cases hw : wholeD d = true
      · exact hw
      · rw [if_neg hw] at this; cases this
    have hrt : rtB ps (.tuple ds) = (zs.all ps.contains && ascB zs) := by unfold rtB; simp only [intsOf]; rw [ez]
    have edz := intsAll_eq ez
    subst edz
    obtain rfl : xs = zs.map V.int := dqInts hX
    have hlz : zs.length ≤ 50 := by simpa using hl
    rw [hrt] at q
    have hA4 := sqS sZ hA
    have hO4 := sZ _ _ hO
    refine ⟨.ref a, rfl, a, rfl, ⟨_, hA4⟩, fun D2 nD2 => lc_it (walk_tup (K := K) (a := a) (xs := zs.map V.int)) (LcP H4 D2 zs (fun z => if ps.contains z = true then none else some (.int z))) (.start nD2) (fun j H3 _ h => sqS h.1 hA4) ?_ ?_⟩
    · rintro j x H5 H6 hj hL2 ⟨rfl, hx⟩
      have hx : (zs.map V.int)[j]? = some x := hx
      rw [List.getElem?_map] at hx
      obtain ⟨z, hz, rfl⟩ := Option.map_eq_some_iff.mp hx
      have hjl := (List.getElem?_eq_some_iff.mp hz).1
      refine ⟨rfl, .int z, rfl, .ref o, rfl, o, _, rfl, .inl (SqL.of (hL2.1 _ _ hO4)), rfl, flat_ints _, _, rfl, ?_⟩
      rw [if_pos rfl, inV_ints]
      refine ite2 (fun h3 => ?_) (fun h3 => ?_)
      · exact ⟨_, rfl, hL2.yes nD2 (Same.refl _) hz (if_neg (by simpa using h3)) (by omega)⟩
      · exact hL2.no (Same.refl _) hz (if_pos (by simpa using h3))
    rintro H5 hL2
    have e5 := hL2.done (by rw [List.length_map]; omega)
    have ef := fm_out ps zs
    rw [ef] at e5
    have s5 := hL2.1
    refine ⟨Nat.zero_le _, fun Z2 nZ2 => ⟨.list ((zs.filter (fun z => !ps.contains z)).map PyData.int), .list [], .lst (SqL.of (upNew nZ2 e5)) (dp_ints _), .lst (SqL.of upd_same) .nil, shaped_ints _, by decide, _, rfl, ?_⟩⟩
    have sZ2 := s5.trans (sameNew (o := .lst []) nZ2)
    generalize upd H5 Z2 (.lst []) = H6 at sZ2 ⊢
    rw [eqv_empty]
    have hall := all_in ps zs
    rw [hall]
    refine ite2 (fun h3 => ?_) (fun h3 => ?_)
    · rw [h3, Bool.true_and] at q
      have hA6 := sqS sZ2 hA4
      refine ⟨.ref a, rfl, a, _, rfl, .inr hA6, fun L7 n7 => ?_⟩
      have s7 := sameNew (o := .lst (zs.map V.int)) n7
      refine ⟨.ref a, rfl, a, zs, rfl, sqS s7 hA6, by omega, fun S cn nS hk hcn => ?_⟩
      refine ⟨S, _, cn, rfl, upd_same, by omega, fun ns p8 hpw hmem hlen np8 => ?_⟩
      have e7 : (upd H6 L7 (.lst (zs.map V.int))) L7 = some (.lst (zs.map V.int)) := upd_same
      refine ⟨.list (zs.map PyData.int), .list (ns.map PyData.int), .lst (SqL.of (upNew np8 (upNew nS e7))) (dp_ints _), .lst (SqL.of upd_same) (dp_ints _), shaped_ints _, shaped_ints _, ?_⟩
      rw [eqv_intsL, asc_sorted hpw (fun x => by rw [hmem x]; simp)]
      exact q _ ((sZ.trans sZ2).trans (s7.trans ((sameNew nS).trans (sameNew np8))))
    · rw [Bool.eq_false_iff.mpr h3, Bool.false_and] at q
      exact q _ (sZ.trans sZ2)
end
end Pv

namespace Pv
open PySem PySem.Spec PyProof.Rows L2
abbrev sRi : Stmt := topS 35
theorem scRi : FnScope ["_law_instance", "_law_crowded", "_law_reserves", "_law_sides_here", "_law_before", "_law_due"] ["_law_instance", "_law_crowded", "_law_reserves", "_law_sides_here"] (defScope sRi) := ⟨rfl, rfl, rfl, by decide +kernel, rfl, by decide +kernel, by decide +kernel⟩
abbrev sLaw : Stmt := topS 36
theorem scLaw : FnScope ["_law_script", "_law_deck_here", "_law_turn", "_law_instance", "_law_sides_here", "_law_crowded", "_law_reserves", "_law_again"] ["_law_script"] (defScope sLaw) := ⟨rfl, rfl, rfl, by decide +kernel, rfl, by decide +kernel, by decide +kernel⟩
theorem sum_abs {B : Nat} : ∀ l : List Int, (∀ x ∈ l, x.natAbs ≤ B) → l.sum.natAbs ≤ l.length * B
  | [], _ => by simp
  | x :: l, h => by
    have h1 := h x (List.mem_cons_self ..)
    have h2 := sum_abs l fun y hy => h y (List.mem_cons_of_mem _ hy)
    rw [List.sum_cons, List.length_cons, Nat.succ_mul]
    omega
theorem sp_abs {cs : List Int} {gs : List Gp} (ok : InsOk cs gs) {p : Int} (h : 0 ≤ p ∧ p < (cs.length : Int)) : (spOf cs gs p).natAbs ≤ 11 * 10 ^ 12 := by
  obtain ⟨q, rfl⟩ : ∃ q : Nat, p = q := ⟨p.toNat, by omega⟩
  rw [sp_at ok q]
  have hq : q < cs.length := by omega
  have h1 : cs.getD q 0 = cs[q] := by rw [List.getD_eq_getElem?_getD, List.getElem?_eq_getElem hq]; rfl
  have h2 := ok.cb cs[q] (List.getElem_mem hq)
  have h3 := sum_abs (B := 10 ^ 12) (gs.map (headC q)) (fun x hx => by
    obtain ⟨g, hg, rfl⟩ := List.mem_map.mp hx
    have := (ok.gp g hg).2.2
    unfold headC
    split
    · exact Nat.zero_le _
    · split <;> omega)
  rw [List.length_map] at h3
  have h4 := Nat.mul_le_mul_right (10 ^ 12) ok.g10
  rw [h1]
  omega
theorem sf_abs {cs : List Int} {gs : List Gp} (ok : InsOk cs gs) {C R : List Int} (hC : ∀ p ∈ C, 0 ≤ p ∧ p < (cs.length : Int)) (hR : ∀ p ∈ R, 0 ≤ p ∧ p < (cs.length : Int)) (lC : C.length ≤ 6) (lR : R.length ≤ 6) : (sfOf C R cs gs).natAbs ≤ 10 ^ 29 := by
  have h1 := sum_abs (B := 11 * 10 ^ 12) (C.map fun p => - spOf cs gs p) (fun x hx => by
    obtain ⟨p, hp, rfl⟩ := List.mem_map.mp hx
    rw [Int.natAbs_neg]; exact sp_abs ok (hC p hp))
  have h2 := sum_abs (B := 11 * 10 ^ 12) (R.map (spOf cs gs)) (fun x hx => by
    obtain ⟨p, hp, rfl⟩ := List.mem_map.mp hx
    exact sp_abs ok (hR p hp))
  have h3 := sum_abs (B := 10 ^ 12) (gs.map fun g => if outV C R cs gs g = true then g.2 else 0) (fun x hx => by
    obtain ⟨g, hg, rfl⟩ := List.mem_map.mp hx
    have := (ok.gp g hg).2.2
    split <;> omega)
  rw [List.length_map] at h1 h2 h3
  have h4 := Nat.mul_le_mul_right (11 * 10 ^ 12) lC
  have h5 := Nat.mul_le_mul_right (11 * 10 ^ 12) lR
  have h6 := Nat.mul_le_mul_right (10 ^ 12) ok.g10
  unfold sfOf escOf
  omega
theorem fitI {cs : List Int} {gs : List Gp} (ok : InsOk cs gs) : Fit (10 ^ 29) 5 20000 (dInst cs gs) := by
  have h6 := ok.c6
  have h10 := ok.g10
  refine fit_dInst ⟨by omega, fun x hx => ?_⟩ (by omega) (fun g' hg' => ⟨(by have := (ok.gp g' hg').1; omega), fun x hx => ?_, ?_⟩)
  · have h1 := ok.cb x hx; omega
  · have h1 := (ok.gp g' hg').2.1 x hx; omega
  · have h1 := (ok.gp g' hg').2.2; omega
theorem fit_show {k W : Nat} {d : PyData} (h : Fit (10 ^ 29) k W d) (hk : k ≤ 60) (hW : W ≤ 1000000) : d.showable = true ∧ d.depth ≤ 60 ∧ d.shown.length ≤ sizeLine := by
  obtain ⟨s1, s2⟩ := fit_ok (M := 10 ^ 29) (by decide) h.ok
  refine ⟨s1, Nat.le_trans h.dp hk, Nat.le_trans s2 (Nat.le_trans h.wt ?_)⟩
  rw [sizeLine_eq]; omega
theorem fit_three {a b c : PyData} (ha : Fit (10 ^ 29) 5 20000 a) (hb : Fit 1000 3 2000 b) (hc : Fit 1000 3 2000 c) : (PyData.list [a, b, c]).showable = true ∧ (PyData.list [a, b, c]).depth ≤ 60 ∧ (PyData.list [a, b, c]).shown.length ≤ sizeLine := by
  refine fit_show (k := 6) (W := 30000) (Fit.lst (fun d hd => ?_) (by decide) ?_) (by decide) (by decide)
  · simp only [List.mem_cons, List.not_mem_nil, or_false] at hd
    rcases hd with rfl | rfl | rfl
    · exact ⟨ha.ok, by have := ha.dp; omega⟩
    · exact ⟨fit_mono (by decide) hb.ok, by have := hb.dp; omega⟩
    · exact ⟨fit_mono (by decide) hc.ok, by have := hc.dp; omega⟩
  · have h1 := ha.wt; have h2 := hb.wt; have h3 := hc.wt
    simp only [wtAll]; omega
theorem fit_bad {d : PyData} (hd : Fit 1000 3 2000 d) : Fit (10 ^ 29) 6 30000 (.list [.str "bad", d, .bool true]) := by
  refine Fit.lst (fun e he => ?_) (by decide) ?_
  · simp only [List.mem_cons, List.not_mem_nil, or_false] at he
    rcases he with rfl | rfl | rfl
    · exact ⟨fitBok (by decide +kernel), by simp [PyData.depth]⟩
    · exact ⟨fit_mono (by decide) hd.ok, by have := hd.dp; omega⟩
    · exact ⟨fitBok (by decide +kernel), by simp [PyData.depth]⟩
  · have h1 := hd.wt
    simp only [wtAll, Pv.wt]; omega
theorem fit_ask {cs : List Int} {gs : List Gp} (ok : InsOk cs gs) {d d2 : PyData} (h1 : Fit 1000 3 2000 d) (h2 : Fit 1000 3 2000 d2) : (askD cs gs d d2).showable = true ∧ (askD cs gs d d2).depth ≤ 60 ∧ (askD cs gs d d2).shown.length ≤ sizeLine := by
  unfold askD
  by_cases hc : rtB (rCro cs gs) d = true
  · rw [if_pos hc]
    by_cases hu : rtB (rUnc cs gs) d2 = true
    · rw [if_pos hu]
      obtain ⟨C, rfl, hC⟩ := rt_open hc
      obtain ⟨R, rfl, hR⟩ := rt_open hu
      have lC : C.length ≤ 6 := by have := rt_len hc; have := cro_len cs gs; have := ok.c6; omega
      have lR : R.length ≤ 6 := by have := rt_len hu; have := unc_len cs gs; have := ok.c6; omega
      have e : sfD cs gs (dI C) (dI R) = sfOf C R cs gs := by unfold sfD; simp only [dI, intsOf, intsAll_ints]
      rw [e]
      have hb := sf_abs ok (fun p hp => (cro_mem.mp (hC p hp)).1) (fun p hp => (unc_mem.mp (hR p hp)).1) lC lR
      refine fit_show (k := 6) (W := 30000) (Fit.lst (fun e he => ?_) (by decide) ?_) (by decide) (by decide)
      · simp only [List.mem_cons, List.not_mem_nil, or_false] at he
        rcases he with rfl | rfl
        · exact ⟨fitBok (by decide +kernel), by simp [PyData.depth]⟩
        · exact ⟨by simp only [fit]; exact hb, by simp [PyData.depth]⟩
      · simp only [wtAll, Pv.wt]; omega
    · rw [if_neg hu]; exact fit_show (fit_bad h2) (by decide) (by decide)
  · rw [if_neg hc]; exact fit_show (fit_bad h1) (by decide) (by decide)
theorem sh_short {d : PyData} (h : shB d = true) : ∀ ds, d = .tuple ds → ds.length ≤ 50 := by
  rintro ds rfl
  exact of_decide_eq_true h
theorem iteTr {b : Bool} {p q : Prop} (h : b = true) (hp : p) : if b = true then p else q := by rw [if_pos h]; exact hp
section
variable {P : Program} {w : World} {K : PySem.W.Frag} {mg : Str → Option Value} {base : Heap}
structure Wd (K : PySem.W.Frag) (cs : List Int) (gs : List Gp) (st c r p sd A B : Addr) (H : Hp) (t : Nat) : Prop where
  du : DU H st c r t
  inst : Dp K H (.ref p) (dInst cs gs)
  sd : SqT K H sd [.ref A, .ref B]
  eA : H A = some (.lst ((rCro cs gs).map V.int))
  eB : H B = some (.lst ((rUnc cs gs).map V.int))
theorem Wd.same {cs : List Int} {gs : List Gp} {st c r p sd A B : Addr} {H H' : Hp} {t : Nat} (h : Wd K cs gs st c r p sd A B H t) (s : Same H H') : Wd K cs gs st c r p sd A B H' t :=
  ⟨h.du.same s, (TupK.of s).dp _ _ (to_dInst _ _) h.inst, sqS s h.sd, s _ _ h.eA, s _ _ h.eB⟩
theorem Wd.ext {cs : List Int} {gs : List Gp} {st c r p sd A B : Addr} {H H' : Hp} {t t' : Nat} (h : Wd K cs gs st c r p sd A B H t) (oA : A ≠ st ∧ A ≠ c ∧ A ≠ r) (oB : B ≠ st ∧ B ≠ c ∧ B ≠ r) (D : DU H' st c r t') (X : Ext st r H H') : Wd K cs gs st c r p sd A B H' t' :=
  ⟨D, (h.du.tup X).dp _ _ (to_dInst _ _) h.inst, (h.du.tup X).sq h.sd, X _ _ h.eA oA.1 oA.2.2, X _ _ h.eB oB.1 oB.2.2⟩
theorem sub_mem : ∀ {l : List Int} {s : List Int}, s ∈ subsL l → ∀ {x}, x ∈ s → x ∈ l := by
  have : ∀ l : List Int, ∀ s ∈ subsL l.reverse, ∀ x ∈ s, x ∈ l.reverse := by
    intro l
    induction l with
    | nil => intro s hs x hx; simp [subsL] at hs; subst hs; cases hx
    | cons a l ih =>
      intro s hs x hx
      rw [List.reverse_cons, subsL_snoc] at hs
      rw [List.reverse_cons]
      rcases List.mem_append.mp hs with h | h
      · exact List.mem_append_left _ (ih s h x hx)
      · obtain ⟨t, ht, rfl⟩ := List.mem_map.mp h
        rcases List.mem_append.mp hx with h | h
        · exact List.mem_append_left _ (ih t ht x h)
        · exact List.mem_append_right _ h
  intro l s hs x hx
  have := this l.reverse s (by rwa [List.reverse_reverse]) x hx
  rwa [List.reverse_reverse] at this
def spRi (K : PySem.W.Frag) : Sp := fun vs H Q _ => ∃ (st r i : Addr) (v v2 : V) (sd A B : Addr) (cs : List Int) (gs : List Gp) (d d2 : PyData), vs = [.ref i, v, v2, .ref sd] ∧ Dp K H (.ref i) (dInst cs gs) ∧ InsOk cs gs ∧ Dq K st r H v d ∧ Dq K st r H v2 d2 ∧ (H st ≠ none ∧ H r ≠ none) ∧ SqT K H sd [.ref A, .ref B] ∧ H A = some (.lst ((rCro cs gs).map V.int)) ∧ H B = some (.lst ((rUnc cs gs).map V.int)) ∧ Fit 1000 3 2000 d ∧ Fit 1000 3 2000 d2 ∧ shB d = true ∧ shB d2 = true ∧
  ∀ H', Same H H' → Q (.bl true) H'
set_option maxHeartbeats 16000000 in
theorem ok_Ri {f fIr fSh fLk : Addr} {fd fdIr fdSh fdLk : FuncData} (F : Fun K "_law_right" "_law_right" sRi f fd)
    (FIr : Fun K "_law_is_right" "_law_is_right" sIr fIr fdIr) (bIr : Binds K fdIr ["_law_value", "_law_posts"] []) (gIr : mg "_law_is_right" = some (.ref fIr)) (GIr : FnOk P w K mg base CX0 1 fIr fdIr ["_law_value", "_law_posts"] (spIr K))
    (FSh : Fun K "_law_short" "_law_short" sSh fSh fdSh) (bSh : Binds K fdSh ["_law_instance", "_law_crowded", "_law_reserves"] []) (gSh : mg "_law_short" = some (.ref fSh)) (GSh : FnOk P w K mg base CX0 2 fSh fdSh ["_law_instance", "_law_crowded", "_law_reserves"] (spSh K))
    (FLk : Fun K "_law_asked" "_law_asked" sLk fLk fdLk) (bLk : Binds K fdLk ["_law_instance", "_law_crowded", "_law_reserves"] []) (gLk : mg "_law_asked" = some (.ref fLk)) (GLk : FnOk P w K mg base CX0 7 fLk fdLk ["_law_instance", "_law_crowded", "_law_reserves"] (spLk K))
    (m_repr : mg "repr" = none) :
    FnG P w K mg base 8 f fd ["_law_instance", "_law_crowded", "_law_reserves", "_law_sides_here"] (spRi K) := by
  refine okG F scRi (fun vs H Q E h => ?_) (fun cdv A outer s H vs Q E hgd hr h => ?_)
  · obtain ⟨st, r, i, v, v2, sd, A, B, cs, gs, d, d2, rfl, _⟩ := h; rfl
  · obtain ⟨st, r, i, v, v2, sd, A, B, cs, gs, d, d2, rfl, hI, ok, hD, hD2, oc, hS, eA, eB, fD, fD2, b1, b2, q⟩ := h
    refine ⟨_, pss_cons (ps_set (i := 4) scRi.nd rfl (.inl rfl) (pe_callB (call_reprA hgd (hu70 hr)) (by rfl) m_repr (by decide +kernel) (pa_cons (pe_lstS (pa_cons (pv 0) (pa_cons (pv 1) (pa_cons (pv 2) pa_nil)))) pa_nil)))
      (pss_cons (ps_if (pt_not (pt_val (pe_call GIr (hr.mono (by omega)) (by rfl) gIr FIr.kp bIr .nil pass0 (pa_cons (pv 1) (pa_cons (pe_ix ix_tup (pv 3) (pe_int) (fun _ _ => rfl)) pa_nil)))))
        (pss_one (ps_set (i := 5) scRi.nd rfl (.inl rfl) (pe_lstS (pa_cons (pe_str) (pa_cons (pv 1) (pa_cons (pe_bl) pa_nil)))))) (pss_one (ps_if (pt_not (pt_val (pe_call GIr (hr.mono (by omega)) (by rfl) gIr FIr.kp bIr .nil pass0 (pa_cons (pv 2) (pa_cons (pe_ix ix_tup (pv 3) (pe_int) (fun _ _ => rfl)) pa_nil)))))
          (pss_one (ps_set (i := 5) scRi.nd rfl (.inl rfl) (pe_lstS (pa_cons (pe_str) (pa_cons (pv 2) (pa_cons (pe_bl) pa_nil)))))) (pss_one (ps_set (i := 5) scRi.nd rfl (.inl rfl) (pe_lstS (pa_cons (pe_str) (pa_cons (pe_call GSh (hr.mono (by omega)) (by rfl) gSh FSh.kp bSh .nil pass0 (pa_cons (pv 0) (pa_cons (pv 1) (pa_cons (pv 2) pa_nil)))) pa_nil))))))))
      (pss_one (ps_ret (pe_and (pe_cmpR op_eq (pe_callB (call_reprA hgd (hu70 hr)) (by rfl) m_repr (by decide +kernel) (pa_cons (pe_call GLk (hr.mono (by omega)) (by rfl) gLk FLk.kp bLk .nil pass0 (pa_cons (pv 0) (pa_cons (pv 1) (pa_cons (pv 2) pa_nil)))) pa_nil)) (pe_callB (call_reprA hgd (hu70 hr)) (by rfl) m_repr (by decide +kernel) (pa_cons (pv 5) pa_nil)) (nomark _)) (pe_one (pe_cmpR op_eq (pe_callB (call_reprA hgd (hu70 hr)) (by rfl) m_repr (by decide +kernel) (pa_cons (pe_lstS (pa_cons (pv 0) (pa_cons (pv 1) (pa_cons (pv 2) pa_nil)))) pa_nil)) (pv 4) (nomark _))))))), ?_⟩
    have fI := fitI ok
    have hl1 := sh_short b1
    have hl2 := sh_short b2
    have f3 := fit_three fI fD fD2
    have dI' : ∀ {Hn : Hp}, Same H Hn → Dq K st r Hn (.ref i) (dInst cs gs) := fun sn => Dq.of_dp (to_dInst _ _) ((TupK.of sn).dp _ _ (to_dInst _ _) hI)
    refine ⟨.ref i, rfl, v, rfl, v2, rfl, (show (3 : Nat) ≤ sizeLine by decide), fun L1 n1 m1 => ?_⟩
    have s1 := sameNew (o := .lst [.ref i, v, v2]) n1
    have o1 := occ_ne oc n1
    refine ⟨_, _, st, r, rfl, .lst upd_same o1.1 o1.2 m1 (.cons (dI' s1) (.cons (hD.lasts (.of s1)) (.cons (hD2.lasts (.of s1)) .nil))), f3.1, f3.2.1, f3.2.2, ?_⟩
    generalize upd H L1 (.lst [.ref i, v, v2]) = H1 at s1 ⊢
    dsimp only
    refine (id ?_ : tSeq (tIfS _ _ _) _ _ _ _)
    refine seq_with (fun σ Hx => ∃ Du, σ = [some (.ref i), some v, some v2, some (.ref sd), some (.str (PyData.list [dInst cs gs, d, d2]).shown), some (.ref Du)] ∧ Same H Hx ∧ Dq K st r Hx (.ref Du) (askD cs gs d d2)) (fun σ Hx h => ?_) (fun rest => ?_)
    · obtain ⟨Du, rfl, sx, hDu⟩ := h
      have fA := fit_ask ok fD fD2
      refine ⟨.ref i, rfl, v, rfl, v2, rfl, st, r, i, v, v2, cs, gs, d, d2, rfl, (TupK.of sx).dp _ _ (to_dInst _ _) hI, ok, hD.lasts (.of sx), hD2.lasts (.of sx), occ oc sx, fun H5 p5 s5 h5 => ?_⟩
      have s05 := sx.trans s5
      refine ⟨_, _, st, r, rfl, h5, fA.1, fA.2.1, fA.2.2, .ref Du, rfl, _, _, st, r, rfl, hDu.lasts (.of s5), fA.1, fA.2.1, fA.2.2, rfl, _, rfl, iteTr (by simp [eqV]) ?_⟩
      refine ⟨.ref i, rfl, v, rfl, v2, rfl, (show (3 : Nat) ≤ sizeLine by decide), fun L6 n6 m6 => ?_⟩
      have s6 := s05.trans (sameNew (o := .lst [.ref i, v, v2]) n6)
      have o6 := occ_ne (occ oc s05) n6
      refine ⟨_, _, st, r, rfl, .lst upd_same o6.1 o6.2 m6 (.cons (dI' s6) (.cons (hD.lasts (.of s6)) (.cons (hD2.lasts (.of s6)) .nil))), f3.1, f3.2.1, f3.2.2, ?_⟩
      refine ⟨_, rfl, rfl, ?_⟩
      have := q _ s6
      simpa [eqV] using this
    · refine ⟨v, rfl, .ref sd, rfl, sd, _, 0, .ref A, rfl, rfl, sqS s1 hS, atI_nat (j := 0) rfl, st, r, v, d, A, rCro cs gs, rfl, hD.lasts (.of s1), s1 _ _ eA, hl1, fun H2 s2 => ⟨_, rfl, ?_⟩⟩
      have s02 := s1.trans s2
      refine ite2 (fun hc => ?_) (fun hc => ?_)
      · have hc : rtB (rCro cs gs) d = false := by simpa using hc
        refine ⟨v, rfl, (show (3 : Nat) ≤ sizeLine by decide), fun Du nDu mDu => ?_⟩
        have sD := s02.trans (sameNew (o := .lst [.str "bad", v, .bl true]) nDu)
        have oD := occ_ne (occ oc s02) nDu
        refine rest _ _ ⟨Du, rfl, sD, ?_⟩
        unfold askD
        rw [hc]
        exact .lst upd_same oD.1 oD.2 mDu (.cons (.str _) (.cons (hD.lasts (.of sD)) (.cons (.bl _) .nil)))
      have hc : rtB (rCro cs gs) d = true := by simpa using hc
      refine ⟨v2, rfl, .ref sd, rfl, sd, _, 1, .ref B, rfl, rfl, sqS s02 hS, atI_nat (j := 1) rfl, st, r, v2, d2, B, rUnc cs gs, rfl, hD2.lasts (.of s02), s02 _ _ eB, hl2, fun H3 s3 => ⟨_, rfl, ?_⟩⟩
      have s03 := s02.trans s3
      refine ite2 (fun hu => ?_) (fun hu => ?_)
      · have hu : rtB (rUnc cs gs) d2 = false := by simpa using hu
        refine ⟨v2, rfl, (show (3 : Nat) ≤ sizeLine by decide), fun Du nDu mDu => ?_⟩
        have sD := s03.trans (sameNew (o := .lst [.str "bad", v2, .bl true]) nDu)
        have oD := occ_ne (occ oc s03) nDu
        refine rest _ _ ⟨Du, rfl, sD, ?_⟩
        unfold askD
        rw [hc, hu]
        exact .lst upd_same oD.1 oD.2 mDu (.cons (.str _) (.cons (hD2.lasts (.of sD)) (.cons (.bl _) .nil)))
      have hu : rtB (rUnc cs gs) d2 = true := by simpa using hu
      obtain ⟨C, rfl, hC⟩ := rt_open hc
      obtain ⟨R, rfl, hR⟩ := rt_open hu
      obtain ⟨a, rfl, hA⟩ := dq_dI hD
      obtain ⟨b, rfl, hB⟩ := dq_dI hD2
      have lC : C.length ≤ 6 := by have := rt_len hc; have := cro_len cs gs; have := ok.c6; omega
      have lR : R.length ≤ 6 := by have := rt_len hu; have := unc_len cs gs; have := ok.c6; omega
      refine ⟨.ref i, rfl, .ref a, rfl, .ref b, rfl, i, a, b, cs, gs, C, R, rfl, (TupK.of s03).dp _ _ (to_dInst _ _) hI, ok, sqS s03 hA, sqS s03 hB, ⟨by omega, fun p hp => (cro_mem.mp (hC p hp)).1⟩, ⟨by omega, fun p hp => (unc_mem.mp (hR p hp)).1⟩, fun H4 s4 => ?_⟩
      have s04 := s03.trans s4
      refine ⟨(show (2 : Nat) ≤ sizeLine by decide), fun Du nDu mDu => ?_⟩
      have sD := s04.trans (sameNew (o := .lst [.str "returned", .int (sfOf C R cs gs)]) nDu)
      have oD := occ_ne (occ oc s04) nDu
      refine rest _ _ ⟨Du, rfl, sD, ?_⟩
      have : askD cs gs (dI C) (dI R) = .list [.str "returned", .int (sfOf C R cs gs)] := by
        unfold askD sfD
        rw [hc, hu]
        simp only [dI, intsOf, intsAll_ints]
        rfl
      rw [this]
      exact .lst upd_same oD.1 oD.2 mDu (.cons (.str _) (.cons (.int _) .nil))
def spLaw (K : PySem.W.Frag) : Sp := fun vs H Q _ => ∃ (a : Addr) (ns : List Int), vs = [.ref a] ∧ SqL K H a (ns.map V.int) ∧ ns.length ≤ 63 ∧ ∀ H', Q (.bl true) H'
set_option maxHeartbeats 16000000 in
theorem ok_Law {f fSt fFa fSi fSe fRi fDr fCh : Addr} {fd fdSt fdFa fdSi fdSe fdRi fdDr fdCh : FuncData} (F : Fun K "law" "law" sLaw f fd)
    (FSt : Fun K "_law_deck" "_law_deck" sSt fSt fdSt) (bSt : Binds K fdSt ["_law_script"] []) (gSt : mg "_law_deck" = some (.ref fSt)) (GSt : FnOk P w K mg base CX0 1 fSt fdSt ["_law_script"] (spStart K))
    (FFa : Fun K "_law_far" "_law_far" sFa fFa fdFa) (bFa : Binds K fdFa ["_law_deck_here", "_law_posts"] []) (gFa : mg "_law_far" = some (.ref fFa)) (GFa : FnOk P w K mg base CX0 3 fFa fdFa ["_law_deck_here", "_law_posts"] (spFa K))
    (FSi : Fun K "_law_sides" "_law_sides" sSi fSi fdSi) (bSi : Binds K fdSi ["_law_instance"] []) (gSi : mg "_law_sides" = some (.ref fSi)) (GSi : FnOk P w K mg base CX0 2 fSi fdSi ["_law_instance"] (spSi K))
    (FSe : Fun K "_law_sets" "_law_sets" sSe fSe fdSe) (bSe : Binds K fdSe ["_law_posts"] []) (gSe : mg "_law_sets" = some (.ref fSe)) (GSe : FnOk P w K mg base CX0 1 fSe fdSe ["_law_posts"] (spSe K))
    (FRi : Fun K "_law_right" "_law_right" sRi fRi fdRi) (bRi : Binds K fdRi ["_law_instance", "_law_crowded", "_law_reserves", "_law_sides_here"] []) (gRi : mg "_law_right" = some (.ref fRi)) (GRi : FnG P w K mg base  8 fRi fdRi ["_law_instance", "_law_crowded", "_law_reserves", "_law_sides_here"] (spRi K))
    (FDr : Fun K "_law_draw" "_law_draw" sDr fDr fdDr) (bDr : Binds K fdDr ["_law_deck_here", "_law_many"] []) (gDr : mg "_law_draw" = some (.ref fDr)) (GDr : FnOk P w K mg base CX0 1 fDr fdDr ["_law_deck_here", "_law_many"] spDraw)
    (FCh : Fun K "_law_changed" "_law_changed" sCh fCh fdCh) (bCh : Binds K fdCh ["_law_deck_here", "_law_row", "_law_others"] []) (gCh : mg "_law_changed" = some (.ref fCh)) (GCh : FnOk P w K mg base CX0 2 fCh fdCh ["_law_deck_here", "_law_row", "_law_others"] (spCh K))
    (m_range : mg "range" = none) (m_tuple : mg "tuple" = none) :
    FnG P w K mg base 10 f fd ["_law_script"] (spLaw K) := by
  refine okG F scLaw (fun vs H Q E h => ?_) (fun cdv A outer s H vs Q E hgd hr h => ?_)
  · obtain ⟨a, ns, rfl, _⟩ := h; rfl
  · obtain ⟨a, ns, rfl, hS, hn, q⟩ := h
    refine ⟨_, pss_cons (ps_set (i := 1) scLaw.nd rfl (.inl rfl) (pe_call GSt (hr.mono (by omega)) (by rfl) gSt FSt.kp bSt .nil pass0 (pa_cons (pv 0) pa_nil)))
      (pss_cons (ps_for PassesOwn.never rfl (pi_range1 (by rfl) m_range (pa_cons (pe_int) pa_nil)) (pg_name (i := 2) scLaw.nd rfl (.inl rfl))
        (pss_cons (ps_set (i := 3) scLaw.nd rfl (.inl rfl) (pe_call GFa (hr.mono (by omega)) (by rfl) gFa FFa.kp bFa .nil pass0 (pa_cons (pv 1) (pa_cons (pe_int) pa_nil))))
        (pss_cons (ps_set (i := 4) scLaw.nd rfl (.inl rfl) (pe_call GSi (hr.mono (by omega)) (by rfl) gSi FSi.kp bSi .nil pass0 (pa_cons (pv 3) pa_nil)))
        (pss_cons (ps_for PassesOwn.never rfl (pi_list (pe_call GSe (hr.mono (by omega)) (by rfl) gSe FSe.kp bSe .nil pass0 (pa_cons (pe_ix ix_tup (pv 4) (pe_int) (fun _ _ => rfl)) pa_nil))) (pg_name (i := 5) scLaw.nd rfl (.inl rfl))
          (pss_one (ps_for PassesOwn.never rfl (pi_list (pe_call GSe (hr.mono (by omega)) (by rfl) gSe FSe.kp bSe .nil pass0 (pa_cons (pe_ix ix_tup (pv 4) (pe_int) (fun _ _ => rfl)) pa_nil))) (pg_name (i := 6) scLaw.nd rfl (.inl rfl))
            (pss_one (ps_if (pt_not (pt_val (pe_callG GRi hgd (hr.mono (by omega)) (by rfl) gRi FRi.kp bRi (pa_cons (pv 3) (pa_cons (pv 5) (pa_cons (pv 6) (pa_cons (pv 4) pa_nil)))))))
              (pss_one (ps_ret (pe_bl))) pss_nil)))))
        (pss_one (ps_for PassesOwn.never rfl (pi_range1 (by rfl) m_range (pa_cons (pe_int) pa_nil)) (pg_name (i := 7) scLaw.nd rfl (.inl rfl))
          (pss_cons (ps_par (i := 5) (j := 6) rfl scLaw.nd rfl rfl (by decide) rfl rfl (pa_cons (pe_callTy call_tupQ (by rfl) m_tuple (by decide +kernel) (pa_cons (pe_ix ix_tup (pv 4) (pe_int) (fun _ _ => rfl)) pa_nil)) (pa_cons (pe_callTy call_tupQ (by rfl) m_tuple (by decide +kernel) (pa_cons (pe_ix ix_tup (pv 4) (pe_int) (fun _ _ => rfl)) pa_nil)) pa_nil)) rfl)
          (pss_cons (ps_if (pt_cmpR op_gt (pe_call GDr (hr.mono (by omega)) (by rfl) gDr FDr.kp bDr .nil pass0 (pa_cons (pv 1) (pa_cons (pe_int) pa_nil))) (pe_int) (nomark _))
            (pss_one (ps_set (i := 5) scLaw.nd rfl (.inl rfl) (pe_call GCh (hr.mono (by omega)) (by rfl) gCh FCh.kp bCh .nil pass0 (pa_cons (pv 1) (pa_cons (pv 5) (pa_cons (pe_ix ix_tup (pv 4) (pe_int) (fun _ _ => rfl)) pa_nil)))))) pss_nil)
          (pss_cons (ps_if (pt_cmpR op_gt (pe_call GDr (hr.mono (by omega)) (by rfl) gDr FDr.kp bDr .nil pass0 (pa_cons (pv 1) (pa_cons (pe_int) pa_nil))) (pe_int) (nomark _))
            (pss_one (ps_set (i := 6) scLaw.nd rfl (.inl rfl) (pe_call GCh (hr.mono (by omega)) (by rfl) gCh FCh.kp bCh .nil pass0 (pa_cons (pv 1) (pa_cons (pv 6) (pa_cons (pe_ix ix_tup (pv 4) (pe_int) (fun _ _ => rfl)) pa_nil)))))) pss_nil)
          (pss_one (ps_if (pt_not (pt_val (pe_callG GRi hgd (hr.mono (by omega)) (by rfl) gRi FRi.kp bRi (pa_cons (pv 3) (pa_cons (pv 5) (pa_cons (pv 6) (pa_cons (pv 4) pa_nil)))))))
            (pss_one (ps_ret (pe_bl))) pss_nil)))))))))))
      (pss_one (ps_ret (pe_bl)))), ?_⟩
    refine ⟨.ref a, rfl, a, ns, rfl, hS, hn, fun H1 st c r s1 D1 => ?_⟩
    refine ⟨3, rfl, by omega, by omega, for_it (walk_range (lo := 0) (n := (3 : Int).toNat))
      (fun j σ H2 => ∃ (t : Nat) (y2 y3 y4 y5 y6 y7 : Option V), σ = [some (.ref a), some (.ref st), y2, y3, y4, y5, y6, y7] ∧ DU H2 st c r t ∧ t ≤ 1000 * j)
      ⟨0, none, none, none, none, none, none, rfl, D1, by omega⟩ (fun _ _ _ _ _ => trivial) ?_ ?_⟩
    case _ =>
      rintro j v σ H2 H2' hlt ⟨t, y2, y3, y4, y5, y6, y7, rfl, D2, ht⟩ ⟨rfl, rfl⟩
      have hj : j < 3 := hlt
      dsimp only
      refine ⟨.ref st, rfl, st, c, r, t, rfl, D2, by omega, fun H3 p t3 cs gs D3 ht3 X3 hI ok => ?_⟩
      have h6 := ok.c6
      refine ⟨.ref p, rfl, p, cs, gs, rfl, hI, ok, fun H4 sd A B s4 hSd eA eB nA nB => ?_⟩
      have oA := D3.off nA
      have oB := D3.off nB
      have lCr := cro_len cs gs
      have lUn := unc_len cs gs
      have bCr : ∀ x ∈ rCro cs gs, 0 ≤ x ∧ x < 6 := fun x hx => by have := (cro_mem.mp hx).1; omega
      have bUn : ∀ x ∈ rUnc cs gs, 0 ≤ x ∧ x < 6 := fun x hx => by have := (unc_mem.mp hx).1; omega
      have W4 : Wd K cs gs st c r p sd A B H4 t3 := ⟨D3.same s4, (TupK.of s4).dp _ _ (to_dInst _ _) hI, hSd, eA, eB⟩
      have fT : ∀ {xs : List Int}, xs.length ≤ 6 → (∀ x ∈ xs, 0 ≤ x ∧ x < 6) → Fit 1000 3 2000 (dI xs) := fun l b => (fit_dI (M := 100) (fun x hx => by have := b x hx; omega)).mono (by decide) (by decide) (by omega)
      have gT : ∀ {xs : List Int}, xs.length ≤ 6 → shB (dI xs) = true := fun l => by simp only [dI, shB, List.length_map, decide_eq_true_eq]; omega
      -- all the sets
      refine ⟨.ref sd, rfl, sd, _, 0, .ref A, rfl, rfl, hSd, atI_nat (j := 0) rfl, A, rCro cs gs, rfl, eA, by omega, fun H5 Lc vs s5 e5 hR5 l5 b5 _ => ?_⟩
      have W5 := W4.same s5
      refine ⟨Lc, rfl, ⟨_, SqL.of e5⟩, for_it (walk_list (K := K) (a := Lc) (xs := vs))
        (fun k σ Hx => ∃ (y5 y6 : Option V), σ = [some (.ref a), some (.ref st), some (.int (0 + (j : Nat))), some (.ref p), some (.ref sd), y5, y6, y7] ∧ Same H5 Hx)
        ⟨_, _, rfl, Same.refl _⟩ (fun k σ Hx _ h => by obtain ⟨_, _, _, s9⟩ := h; exact SqL.of (s9 _ _ e5)) ?_ ?_⟩
      · rintro k v σ Hx Hx' hk ⟨y5', y6', rfl, sx⟩ ⟨rfl, hv⟩
        have hv : vs[k]? = some v := hv
        obtain ⟨C, hC, TC, rfl, hTC⟩ := hR5.at hv
        have mC := List.mem_of_getElem? hC
        have Wx := W5.same sx
        refine ⟨.ref sd, rfl, sd, _, 1, .ref B, rfl, rfl, Wx.sd, atI_nat (j := 1) rfl, B, rUnc cs gs, rfl, Wx.eB, by omega, fun H6 Lr ws s6 e6 hR6 l6 b6 _ => ?_⟩
        have W6 := Wx.same s6
        refine ⟨Lr, rfl, ⟨_, SqL.of e6⟩, for_it (walk_list (K := K) (a := Lr) (xs := ws))
          (fun m σ Hy => ∃ (y6 : Option V), σ = [some (.ref a), some (.ref st), some (.int (0 + (j : Nat))), some (.ref p), some (.ref sd), some (.ref TC), y6, y7] ∧ Same H6 Hy)
          ⟨_, rfl, Same.refl _⟩ (fun k σ Hx _ h => by obtain ⟨_, _, s9⟩ := h; exact SqL.of (s9 _ _ e6)) ?_ ?_⟩
        · rintro m v σ Hy Hy' hm ⟨y6'', rfl, sy⟩ ⟨rfl, hv⟩
          have hv : ws[m]? = some v := hv
          obtain ⟨R, hR, TR, rfl, hTR⟩ := hR6.at hv
          have mR := List.mem_of_getElem? hR
          have Wy := W6.same sy
          refine ⟨.ref p, rfl, .ref TC, rfl, .ref TR, rfl, .ref sd, rfl, st, r, p, .ref TC, .ref TR, sd, A, B, cs, gs, dI C, dI R, rfl, Wy.inst, ok, .tup (sqS (sx.trans (s6.trans sy)) hTC) (dq_ints _), .tup (sqS sy hTR) (dq_ints _), Wy.du.occ, Wy.sd, Wy.eA, Wy.eB, fT (b5 C mC) (fun x hx => bCr x (sub_mem mC hx)), fT (b6 R mR) (fun x hx => bUn x (sub_mem mR hx)), gT (b5 C mC), gT (b6 R mR), fun H7 s7 => ⟨_, rfl, iteFF rfl ⟨_, rfl, sy.trans s7⟩⟩⟩
        · rintro σ Hy ⟨y6'', rfl, sy⟩
          exact ⟨_, _, rfl, sx.trans (s6.trans sy)⟩
      rintro σ Hx ⟨y5', y6', rfl, sx⟩
      have Wx := W5.same sx
      -- drawn values
      refine ⟨10, rfl, by omega, by omega, for_it (walk_range (lo := 0) (n := (10 : Int).toNat))
        (fun k σ Hy => ∃ (ty : Nat) (y5 y6 y7 : Option V), σ = [some (.ref a), some (.ref st), some (.int (0 + (j : Nat))), some (.ref p), some (.ref sd), y5, y6, y7] ∧ Wd K cs gs st c r p sd A B Hy ty ∧ ty ≤ t3 + 10 * k)
        ⟨t3, _, _, _, rfl, Wx, by omega⟩ (fun _ _ _ _ _ => trivial) ?_ ?_⟩
      · rintro k v σ Hy Hy' hk ⟨ty, z5, z6, z7, rfl, Wy, hty⟩ ⟨rfl, rfl⟩
        have hk : k < 10 := hk
        dsimp only
        refine ⟨.ref sd, rfl, sd, _, 0, .ref A, rfl, rfl, Wy.sd, atI_nat (j := 0) rfl, A, _, rfl, .inl ⟨SqL.of Wy.eA, fun T1 n1 => ?_⟩⟩
        have sT1 := sameNew (o := .tup ((rCro cs gs).map V.int)) n1
        refine ⟨.ref sd, rfl, sd, _, 1, .ref B, rfl, rfl, sqS sT1 Wy.sd, atI_nat (j := 1) rfl, B, _, rfl, .inl ⟨SqL.of (sT1 _ _ Wy.eB), fun T2 n2 => ?_⟩⟩
        have sT2 := sameNew (o := .tup ((rUnc cs gs).map V.int)) n2
        have W7 := Wy.same (sT1.trans sT2)
        have h1 : SqT K (upd (upd Hy' T1 (.tup ((rCro cs gs).map V.int))) T2 (.tup ((rUnc cs gs).map V.int))) T1 ((rCro cs gs).map V.int) := sqS sT2 (SqT.of upd_same)
        have h2 : SqT K (upd (upd Hy' T1 (.tup ((rCro cs gs).map V.int))) T2 (.tup ((rUnc cs gs).map V.int))) T2 ((rUnc cs gs).map V.int) := SqT.of upd_same
        generalize upd (upd Hy' T1 (.tup ((rCro cs gs).map V.int))) T2 (.tup ((rUnc cs gs).map V.int)) = H7 at W7 h1 h2 ⊢
        have f1 := And.intro (fT (show (rCro cs gs).length ≤ 6 by omega) bCr) (gT (xs := rCro cs gs) (by omega))
        have f2 := And.intro (fT (show (rUnc cs gs).length ≤ 6 by omega) bUn) (gT (xs := rUnc cs gs) (by omega))
        refine ⟨_, _, rfl, ?_⟩
        dsimp only
        refine (id ?_ : tSeq (tIfS _ _ _) _ _ _ _)
        refine seq_with (fun σ Hz => ∃ (tz : Nat) (v : V) (d : PyData) (y7 : Option V), σ = [some (.ref a), some (.ref st), some (.int (0 + (j : Nat))), some (.ref p), some (.ref sd), some v, some (.ref T2), y7] ∧ Wd K cs gs st c r p sd A B Hz tz ∧ tz ≤ ty + 4 ∧ Dq K st r Hz v d ∧ (Fit 1000 3 2000 d ∧ shB d = true) ∧ SqT K Hz T2 ((rUnc cs gs).map V.int)) (fun σ Hz h => ?_) (fun rest => ?_)
        · obtain ⟨tz, v, d, y7, rfl, Wz, htz, hd, fd, h2⟩ := h
          refine (id ?_ : tSeq (tIfS _ _ _) _ _ _ _)
          refine seq_with (fun σ Hz => ∃ (tz : Nat) (v v2 : V) (d d2 : PyData) (y7 : Option V), σ = [some (.ref a), some (.ref st), some (.int (0 + (j : Nat))), some (.ref p), some (.ref sd), some v, some v2, y7] ∧ Wd K cs gs st c r p sd A B Hz tz ∧ tz ≤ ty + 8 ∧ Dq K st r Hz v d ∧ (Fit 1000 3 2000 d ∧ shB d = true) ∧ Dq K st r Hz v2 d2 ∧ (Fit 1000 3 2000 d2 ∧ shB d2 = true)) (fun σ Hz h => ?_) (fun rest => ?_)
          · obtain ⟨tz, v, v2, d, d2, y7, rfl, Wz, htz, hd, fd, hd2, fd2⟩ := h
            refine ⟨.ref p, rfl, v, rfl, v2, rfl, .ref sd, rfl, st, r, p, v, v2, sd, A, B, cs, gs, d, d2, rfl, Wz.inst, ok, hd, hd2, Wz.du.occ, Wz.sd, Wz.eA, Wz.eB, fd.1, fd2.1, fd.2, fd2.2, fun H8 s8 => ⟨_, rfl, iteFF rfl ⟨tz, _, _, _, rfl, Wz.same s8, by omega⟩⟩⟩
          · refine ⟨.ref st, rfl, st, c, r, _, 3, rfl, Wz.du, by omega, by decide, by decide, fun H8 d8 _ _ D8 X8 => ⟨_, _, rfl, rfl, _, rfl, ?_⟩⟩
            have W8 := Wz.ext oA oB D8 X8
            have hd8 := hd.lasts (Wz.du.lasts X8)
            have h28 := (Wz.du.tup X8).sq h2
            refine ite2 (fun _ => ?_) (fun _ => rest _ _ ⟨_, v, .ref T2, d, _, _, rfl, W8, by omega, hd8, fd, .tup h28 (dq_ints _), f2⟩)
            refine ⟨.ref st, rfl, .ref T2, rfl, .ref sd, rfl, sd, _, 0, .ref A, rfl, rfl, W8.sd, atI_nat (j := 0) rfl, st, c, r, T2, A, _, rUnc cs gs, rCro cs gs, rfl, W8.du, by omega, h28, W8.eA, ⟨by omega, bUn⟩, ⟨by omega, bCr⟩, fun H9 v9 d9 D9 X9 hd9 f9 g9 => ?_⟩
            exact rest _ _ ⟨_, v, v9, d, d9, _, rfl, W8.ext oA oB D9 X9, by omega, hd8.lasts (W8.du.lasts X9), fd, hd9, ⟨f9, g9⟩⟩
        · refine ⟨.ref st, rfl, st, c, r, _, 3, rfl, W7.du, by omega, by decide, by decide, fun H8 d8 _ _ D8 X8 => ⟨_, _, rfl, rfl, _, rfl, ?_⟩⟩
          have W8 := W7.ext oA oB D8 X8
          have h18 := (W7.du.tup X8).sq h1
          have h28 := (W7.du.tup X8).sq h2
          refine ite2 (fun _ => ?_) (fun _ => rest _ _ ⟨_, .ref T1, _, _, rfl, W8, by omega, .tup h18 (dq_ints _), f1, h28⟩)
          refine ⟨.ref st, rfl, .ref T1, rfl, .ref sd, rfl, sd, _, 1, .ref B, rfl, rfl, W8.sd, atI_nat (j := 1) rfl, st, c, r, T1, B, _, rCro cs gs, rUnc cs gs, rfl, W8.du, by omega, h18, W8.eB, ⟨by omega, bCr⟩, ⟨by omega, bUn⟩, fun H9 v9 d9 D9 X9 hd9 f9 g9 => ?_⟩
          exact rest _ _ ⟨_, v9, d9, _, rfl, W8.ext oA oB D9 X9, by omega, hd9, ⟨f9, g9⟩, (W8.du.tup X9).sq h28⟩
      rintro σ Hy ⟨ty, z5, z6, z7, rfl, Wy, hty⟩
      have e10 : (10 : Int).toNat = 10 := rfl
      rw [e10] at hty
      exact ⟨ty, _, _, _, _, _, _, rfl, Wy.du, by omega⟩
    rintro σ H2 ⟨t, y2, y3, y4, y5, y6, y7, rfl, D2, ht⟩
    exact q _
end
end Pv

namespace Pv
open PySem PySem.Spec PyProof.Rows L2
abbrev siBP : Stmt := inCls (topS 5) 0
theorem sciBP : FnScope ["self", "value"] ["self", "value"] (defScope siBP) := ⟨rfl, rfl, rfl, by decide +kernel, rfl, by decide +kernel, by decide +kernel⟩
theorem ok_iBP {P : Program} {w : World} {K : PySem.W.Frag} {mg : Str → Option Value} {base : Heap} {f C : Addr} {fd : FuncData} (F : Fun K "__init__" "BadPosts.__init__" siBP f fd) (X : XF K C f "value") : FnOk P w K mg base CX0 1 f fd ["self", "value"] (spI1 C "value") := by
  refine F.ok sciBP (fun vs H Q E h => ?_) (fun cdv A outer s H vs Q E hr h => ?_)
  · obtain ⟨a, v, rfl, _⟩ := h; rfl
  · obtain ⟨a, v, rfl, hH, q⟩ := h
    refine ⟨_, pss_one (ps_ost (pv 0) (pv 1)), ?_⟩
    exact ⟨v, rfl, .ref a, rfl, a, C, rfl, X.T, X.no, .inl ⟨hH, fun dx nd ne => q dx nd ne⟩⟩
end Pv

namespace Pv
open PySem PySem.Spec PyProof.Rows L2
/-! what the top has left -/
set_option maxHeartbeats 8000000 in
theorem all_mk {l : PySem.W.OpenLaw} {w : World} {K : PySem.W.Frag} {h : Heap} {mg : Str → Option Value} {fa fWh fTo fOp fDm fEx fFr fCl fCr fRe fSf fIc fUp fEc fSt fDr fGt fMx fLl fFa fFs fSh fSe fSi fLk fCh fIr fRi fLaw : Addr} (X : K.In h) (G : h.Ns mainGlobals mg) (hfa : mg "law" = some (.ref fa))
    {odWh anWh odTo anTo odOp anOp odDm anDm odEx anEx odFr anFr odCl anCl odCr anCr odRe anRe odSf anSf odIc anIc odUp anUp odEc anEc odSt anSt odDr anDr odGt anGt odMx anMx odLl anLl odFa anFa odFs anFs odSh anSh odSe anSe odSi anSi odLk anLk odCh anCh odIr anIr odRi anRi odLaw anLaw : Option Addr} {slWh slTo slOp slDm slEx slFr slCl slCr slRe slSf slIc slUp slEc slSt slDr slGt slMx slLl slFa slFs slSh slSe slSi slLk slCh slIr slRi slLaw : Array (Option Value)}
    {ocWh kVWh dcWh pmWh cdWh ctWh ocTo kVTo dcTo pmTo cdTo ctTo ocOp kVOp dcOp pmOp cdOp ctOp ocDm kVDm dcDm pmDm cdDm ctDm ocEx kVEx dcEx pmEx cdEx ctEx ocFr kVFr dcFr pmFr cdFr ctFr ocCl kVCl dcCl pmCl cdCl ctCl ocCr kVCr dcCr pmCr cdCr ctCr ocRe kVRe dcRe pmRe cdRe ctRe ocSf kVSf dcSf pmSf cdSf ctSf ocIc kVIc dcIc pmIc cdIc ctIc ocUp kVUp dcUp pmUp cdUp ctUp ocEc kVEc dcEc pmEc cdEc ctEc ocSt kVSt dcSt pmSt cdSt ctSt ocDr kVDr dcDr pmDr cdDr ctDr ocGt kVGt dcGt pmGt cdGt ctGt ocMx kVMx dcMx pmMx cdMx ctMx ocLl kVLl dcLl pmLl cdLl ctLl ocFa kVFa dcFa pmFa cdFa ctFa ocFs kVFs dcFs pmFs cdFs ctFs ocSh kVSh dcSh pmSh cdSh ctSh ocSe kVSe dcSe pmSe cdSe ctSe ocSi kVSi dcSi pmSi cdSi ctSi ocLk kVLk dcLk pmLk cdLk ctLk ocCh kVCh dcCh pmCh cdCh ctCh ocIr kVIr dcIr pmIr cdIr ctIr ocRi kVRi dcRi pmRi cdRi ctRi ocLaw kVLaw dcLaw pmLaw cdLaw ctLaw : Value}
    (aWh : PySem.W.nsIn K mainGlobals "is_whole" = some (some (.ref fWh))) (lWh : K.lookup fWh = some ⟨ocWh, odWh, .func (PySem.W.fnOf "is_whole" "is_whole" (defArgs sWhole) (defBody sWhole) (defScope sWhole) .none kVWh dcWh pmWh anWh cdWh ctWh), slWh⟩)
      (cWh : PySem.W.codeIn K cdWh "is_whole" = true) (kWh : PySem.W.keepIn K (.ref fWh) = true)
    (aTo : PySem.W.nsIn K mainGlobals "is_tuple_of" = some (some (.ref fTo))) (lTo : K.lookup fTo = some ⟨ocTo, odTo, .func (PySem.W.fnOf "is_tuple_of" "is_tuple_of" (defArgs sTupOf) (defBody sTupOf) (defScope sTupOf) .none kVTo dcTo pmTo anTo cdTo ctTo), slTo⟩)
      (cTo : PySem.W.codeIn K cdTo "is_tuple_of" = true) (kTo : PySem.W.keepIn K (.ref fTo) = true)
    (aOp : PySem.W.nsIn K mainGlobals "option_post" = some (some (.ref fOp))) (lOp : K.lookup fOp = some ⟨ocOp, odOp, .func (PySem.W.fnOf "option_post" "option_post" (defArgs sOpt) (defBody sOpt) (defScope sOpt) .none kVOp dcOp pmOp anOp cdOp ctOp), slOp⟩)
      (cOp : PySem.W.codeIn K cdOp "option_post" = true) (kOp : PySem.W.keepIn K (.ref fOp) = true)
    (aDm : PySem.W.nsIn K mainGlobals "demands" = some (some (.ref fDm))) (lDm : K.lookup fDm = some ⟨ocDm, odDm, .func (PySem.W.fnOf "demands" "demands" (defArgs sDem) (defBody sDem) (defScope sDem) .none kVDm dcDm pmDm anDm cdDm ctDm), slDm⟩)
      (cDm : PySem.W.codeIn K cdDm "demands" = true) (kDm : PySem.W.keepIn K (.ref fDm) = true)
    (aEx : PySem.W.nsIn K mainGlobals "excesses" = some (some (.ref fEx))) (lEx : K.lookup fEx = some ⟨ocEx, odEx, .func (PySem.W.fnOf "excesses" "excesses" (defArgs sExc) (defBody sExc) (defScope sExc) .none kVEx dcEx pmEx anEx cdEx ctEx), slEx⟩)
      (cEx : PySem.W.codeIn K cdEx "excesses" = true) (kEx : PySem.W.keepIn K (.ref fEx) = true)
    (aFr : PySem.W.nsIn K mainGlobals "free_places" = some (some (.ref fFr))) (lFr : K.lookup fFr = some ⟨ocFr, odFr, .func (PySem.W.fnOf "free_places" "free_places" (defArgs sFre) (defBody sFre) (defScope sFre) .none kVFr dcFr pmFr anFr cdFr ctFr), slFr⟩)
      (cFr : PySem.W.codeIn K cdFr "free_places" = true) (kFr : PySem.W.keepIn K (.ref fFr) = true)
    (aCl : PySem.W.nsIn K mainGlobals "claimed_posts" = some (some (.ref fCl))) (lCl : K.lookup fCl = some ⟨ocCl, odCl, .func (PySem.W.fnOf "claimed_posts" "claimed_posts" (defArgs sCla) (defBody sCla) (defScope sCla) .none kVCl dcCl pmCl anCl cdCl ctCl), slCl⟩)
      (cCl : PySem.W.codeIn K cdCl "claimed_posts" = true) (kCl : PySem.W.keepIn K (.ref fCl) = true)
    (aCr : PySem.W.nsIn K mainGlobals "crowded_posts" = some (some (.ref fCr))) (lCr : K.lookup fCr = some ⟨ocCr, odCr, .func (PySem.W.fnOf "crowded_posts" "crowded_posts" (defArgs sCro) (defBody sCro) (defScope sCro) .none kVCr dcCr pmCr anCr cdCr ctCr), slCr⟩)
      (cCr : PySem.W.codeIn K cdCr "crowded_posts" = true) (kCr : PySem.W.keepIn K (.ref fCr) = true)
    (aRe : PySem.W.nsIn K mainGlobals "reserve_option" = some (some (.ref fRe))) (lRe : K.lookup fRe = some ⟨ocRe, odRe, .func (PySem.W.fnOf "reserve_option" "reserve_option" (defArgs sRes) (defBody sRes) (defScope sRes) .none kVRe dcRe pmRe anRe cdRe ctRe), slRe⟩)
      (cRe : PySem.W.codeIn K cdRe "reserve_option" = true) (kRe : PySem.W.keepIn K (.ref fRe) = true)
    (aSf : PySem.W.nsIn K mainGlobals "shortfall" = some (some (.ref fSf))) (lSf : K.lookup fSf = some ⟨ocSf, odSf, .func (PySem.W.fnOf "shortfall" "shortfall" (defArgs sSf) (defBody sSf) (defScope sSf) .none kVSf dcSf pmSf anSf cdSf ctSf), slSf⟩)
      (cSf : PySem.W.codeIn K cdSf "shortfall" = true) (kSf : PySem.W.keepIn K (.ref fSf) = true)
    (aIc : PySem.W.nsIn K mainGlobals "is_choice" = some (some (.ref fIc))) (lIc : K.lookup fIc = some ⟨ocIc, odIc, .func (PySem.W.fnOf "is_choice" "is_choice" (defArgs sIc) (defBody sIc) (defScope sIc) .none kVIc dcIc pmIc anIc cdIc ctIc), slIc⟩)
      (cIc : PySem.W.codeIn K cdIc "is_choice" = true) (kIc : PySem.W.keepIn K (.ref fIc) = true)
    (aUp : PySem.W.nsIn K mainGlobals "unclaimed_posts" = some (some (.ref fUp))) (lUp : K.lookup fUp = some ⟨ocUp, odUp, .func (PySem.W.fnOf "unclaimed_posts" "unclaimed_posts" (defArgs sUp) (defBody sUp) (defScope sUp) .none kVUp dcUp pmUp anUp cdUp ctUp), slUp⟩)
      (cUp : PySem.W.codeIn K cdUp "unclaimed_posts" = true) (kUp : PySem.W.keepIn K (.ref fUp) = true)
    (aEc : PySem.W.nsIn K mainGlobals "escape_count" = some (some (.ref fEc))) (lEc : K.lookup fEc = some ⟨ocEc, odEc, .func (PySem.W.fnOf "escape_count" "escape_count" (defArgs sEc) (defBody sEc) (defScope sEc) .none kVEc dcEc pmEc anEc cdEc ctEc), slEc⟩)
      (cEc : PySem.W.codeIn K cdEc "escape_count" = true) (kEc : PySem.W.keepIn K (.ref fEc) = true)
    (aSt : PySem.W.nsIn K mainGlobals "_law_deck" = some (some (.ref fSt))) (lSt : K.lookup fSt = some ⟨ocSt, odSt, .func (PySem.W.fnOf "_law_deck" "_law_deck" (defArgs sSt) (defBody sSt) (defScope sSt) .none kVSt dcSt pmSt anSt cdSt ctSt), slSt⟩)
      (cSt : PySem.W.codeIn K cdSt "_law_deck" = true) (kSt : PySem.W.keepIn K (.ref fSt) = true)
    (aDr : PySem.W.nsIn K mainGlobals "_law_draw" = some (some (.ref fDr))) (lDr : K.lookup fDr = some ⟨ocDr, odDr, .func (PySem.W.fnOf "_law_draw" "_law_draw" (defArgs sDr) (defBody sDr) (defScope sDr) .none kVDr dcDr pmDr anDr cdDr ctDr), slDr⟩)
      (cDr : PySem.W.codeIn K cdDr "_law_draw" = true) (kDr : PySem.W.keepIn K (.ref fDr) = true)
    (aGt : PySem.W.nsIn K mainGlobals "_law_great" = some (some (.ref fGt))) (lGt : K.lookup fGt = some ⟨ocGt, odGt, .func (PySem.W.fnOf "_law_great" "_law_great" (defArgs sGt) (defBody sGt) (defScope sGt) .none kVGt dcGt pmGt anGt cdGt ctGt), slGt⟩)
      (cGt : PySem.W.codeIn K cdGt "_law_great" = true) (kGt : PySem.W.keepIn K (.ref fGt) = true)
    (aMx : PySem.W.nsIn K mainGlobals "_law_mixed" = some (some (.ref fMx))) (lMx : K.lookup fMx = some ⟨ocMx, odMx, .func (PySem.W.fnOf "_law_mixed" "_law_mixed" (defArgs sMx) (defBody sMx) (defScope sMx) .none kVMx dcMx pmMx anMx cdMx ctMx), slMx⟩)
      (cMx : PySem.W.codeIn K cdMx "_law_mixed" = true) (kMx : PySem.W.keepIn K (.ref fMx) = true)
    (aLl : PySem.W.nsIn K mainGlobals "_law_led" = some (some (.ref fLl))) (lLl : K.lookup fLl = some ⟨ocLl, odLl, .func (PySem.W.fnOf "_law_led" "_law_led" (defArgs sLl) (defBody sLl) (defScope sLl) .none kVLl dcLl pmLl anLl cdLl ctLl), slLl⟩)
      (cLl : PySem.W.codeIn K cdLl "_law_led" = true) (kLl : PySem.W.keepIn K (.ref fLl) = true)
    (aFa : PySem.W.nsIn K mainGlobals "_law_far" = some (some (.ref fFa))) (lFa : K.lookup fFa = some ⟨ocFa, odFa, .func (PySem.W.fnOf "_law_far" "_law_far" (defArgs sFa) (defBody sFa) (defScope sFa) .none kVFa dcFa pmFa anFa cdFa ctFa), slFa⟩)
      (cFa : PySem.W.codeIn K cdFa "_law_far" = true) (kFa : PySem.W.keepIn K (.ref fFa) = true)
    (aFs : PySem.W.nsIn K mainGlobals "_law_facts" = some (some (.ref fFs))) (lFs : K.lookup fFs = some ⟨ocFs, odFs, .func (PySem.W.fnOf "_law_facts" "_law_facts" (defArgs sFs) (defBody sFs) (defScope sFs) .none kVFs dcFs pmFs anFs cdFs ctFs), slFs⟩)
      (cFs : PySem.W.codeIn K cdFs "_law_facts" = true) (kFs : PySem.W.keepIn K (.ref fFs) = true)
    (aSh : PySem.W.nsIn K mainGlobals "_law_short" = some (some (.ref fSh))) (lSh : K.lookup fSh = some ⟨ocSh, odSh, .func (PySem.W.fnOf "_law_short" "_law_short" (defArgs sSh) (defBody sSh) (defScope sSh) .none kVSh dcSh pmSh anSh cdSh ctSh), slSh⟩)
      (cSh : PySem.W.codeIn K cdSh "_law_short" = true) (kSh : PySem.W.keepIn K (.ref fSh) = true)
    (aSe : PySem.W.nsIn K mainGlobals "_law_sets" = some (some (.ref fSe))) (lSe : K.lookup fSe = some ⟨ocSe, odSe, .func (PySem.W.fnOf "_law_sets" "_law_sets" (defArgs sSe) (defBody sSe) (defScope sSe) .none kVSe dcSe pmSe anSe cdSe ctSe), slSe⟩)
      (cSe : PySem.W.codeIn K cdSe "_law_sets" = true) (kSe : PySem.W.keepIn K (.ref fSe) = true)
    (aSi : PySem.W.nsIn K mainGlobals "_law_sides" = some (some (.ref fSi))) (lSi : K.lookup fSi = some ⟨ocSi, odSi, .func (PySem.W.fnOf "_law_sides" "_law_sides" (defArgs sSi) (defBody sSi) (defScope sSi) .none kVSi dcSi pmSi anSi cdSi ctSi), slSi⟩)
      (cSi : PySem.W.codeIn K cdSi "_law_sides" = true) (kSi : PySem.W.keepIn K (.ref fSi) = true)
    (aLk : PySem.W.nsIn K mainGlobals "_law_asked" = some (some (.ref fLk))) (lLk : K.lookup fLk = some ⟨ocLk, odLk, .func (PySem.W.fnOf "_law_asked" "_law_asked" (defArgs sLk) (defBody sLk) (defScope sLk) .none kVLk dcLk pmLk anLk cdLk ctLk), slLk⟩)
      (cLk : PySem.W.codeIn K cdLk "_law_asked" = true) (kLk : PySem.W.keepIn K (.ref fLk) = true)
    (aCh : PySem.W.nsIn K mainGlobals "_law_changed" = some (some (.ref fCh))) (lCh : K.lookup fCh = some ⟨ocCh, odCh, .func (PySem.W.fnOf "_law_changed" "_law_changed" (defArgs sCh) (defBody sCh) (defScope sCh) .none kVCh dcCh pmCh anCh cdCh ctCh), slCh⟩)
      (cCh : PySem.W.codeIn K cdCh "_law_changed" = true) (kCh : PySem.W.keepIn K (.ref fCh) = true)
    (aIr : PySem.W.nsIn K mainGlobals "_law_is_right" = some (some (.ref fIr))) (lIr : K.lookup fIr = some ⟨ocIr, odIr, .func (PySem.W.fnOf "_law_is_right" "_law_is_right" (defArgs sIr) (defBody sIr) (defScope sIr) .none kVIr dcIr pmIr anIr cdIr ctIr), slIr⟩)
      (cIr : PySem.W.codeIn K cdIr "_law_is_right" = true) (kIr : PySem.W.keepIn K (.ref fIr) = true)
    (aRi : PySem.W.nsIn K mainGlobals "_law_right" = some (some (.ref fRi))) (lRi : K.lookup fRi = some ⟨ocRi, odRi, .func (PySem.W.fnOf "_law_right" "_law_right" (defArgs sRi) (defBody sRi) (defScope sRi) .none kVRi dcRi pmRi anRi cdRi ctRi), slRi⟩)
      (cRi : PySem.W.codeIn K cdRi "_law_right" = true) (kRi : PySem.W.keepIn K (.ref fRi) = true)
    (aLaw : PySem.W.nsIn K mainGlobals "law" = some (some (.ref fLaw))) (lLaw : K.lookup fLaw = some ⟨ocLaw, odLaw, .func (PySem.W.fnOf "law" "law" (defArgs sLaw) (defBody sLaw) (defScope sLaw) .none kVLaw dcLaw pmLaw anLaw cdLaw ctLaw), slLaw⟩)
      (cLaw : PySem.W.codeIn K cdLaw "law" = true) (kLaw : PySem.W.keepIn K (.ref fLaw) = true)
    (z0 : PySem.W.nsIn K mainGlobals "isinstance" = some none)
    (z1 : PySem.W.nsIn K mainGlobals "int" = some none)
    (z2 : PySem.W.nsIn K mainGlobals "bool" = some none)
    (z3 : PySem.W.nsIn K mainGlobals "tuple" = some none)
    (z4 : PySem.W.nsIn K mainGlobals "list" = some none)
    (z5 : PySem.W.nsIn K mainGlobals "len" = some none)
    (z6 : PySem.W.nsIn K mainGlobals "abs" = some none)
    (z7 : PySem.W.nsIn K mainGlobals "min" = some none)
    (z8 : PySem.W.nsIn K mainGlobals "max" = some none)
    (z9 : PySem.W.nsIn K mainGlobals "range" = some none)
    (z10 : PySem.W.nsIn K mainGlobals "zip" = some none)
    (z11 : PySem.W.nsIn K mainGlobals "all" = some none)
    (z12 : PySem.W.nsIn K mainGlobals "enumerate" = some none)
    (z13 : PySem.W.nsIn K mainGlobals "sum" = some none)
    (z14 : PySem.W.nsIn K mainGlobals "repr" = some none)
    (z15 : PySem.W.nsIn K mainGlobals "set" = some none)
    (z16 : PySem.W.nsIn K mainGlobals "sorted" = some none)
    (z17 : PySem.W.nsIn K mainGlobals "ValueError" = some none)
    {cBP : Addr} (aCBP : PySem.W.nsIn K mainGlobals "BadPosts" = some (some (.ref cBP))) (iCBP : isCB K cBP = true)
    {cVE : Addr} (aCVE : PySem.W.nsIn K mainGlobals "VoteError" = some (some (.ref cVE))) (iCVE : isCB K cVE = true)
    {cNU : Addr} (aCNU : PySem.W.nsIn K mainGlobals "NoUnbeaten" = some (some (.ref cNU))) (iCNU : isCB K cNU = true)
    {nmBP qnBP : Str} {NBP fiBP : Addr} {bsBP bmBP subBP : List Value} {snBP : List Str} {abBP : Bool} {colBP : Option Bool} {ddBP odiBP aniBP : Option Addr} {kaBP kbBP kcBP kdBP keBP : Option Value} {sliBP : Array (Option Value)} {ociBP kViBP dciBP pmiBP cdiBP ctiBP : Value}
    (lXBP : K.lookup cBP = some (excClassObj nmBP qnBP cBP NBP bsBP bmBP true snBP subBP abBP colBP ddBP kaBP kbBP kcBP kdBP keBP "ValueError.__new__")) (vXBP : PySem.HandSPX.refsVE bmBP = true)
    (nXBP : PySem.W.findIn K (.ref cBP) "__init__" = some (some (.ref fiBP))) (lIBP : K.lookup fiBP = some ⟨ociBP, odiBP, .func (PySem.W.fnOf "__init__" "BadPosts.__init__" (defArgs siBP) (defBody siBP) (defScope siBP) .none kViBP dciBP pmiBP aniBP cdiBP ctiBP), sliBP⟩) (cIBP : PySem.W.codeIn K cdiBP "BadPosts.__init__" = true) (kIBP : PySem.W.keepIn K (.ref fiBP) = true) (bXBP : xf1B K cBP fiBP "value" = true)
    (x1 : PySem.W.exmOne K (.ref cBP) (.ref cBP) = some true)
    (x2 : PySem.W.kitOne K (.ref cBP) (.ref cVE) = some true)
    (x3 : PySem.W.kitOne K (.ref cBP) (.type "ValueError") = some true)
    (x4 : PySem.W.kitOne K (.ref cBP) (.ref cNU) = some false)
    : ∃ fd : FuncData, (∀ (s : Shared) (v : Value), BindsTo s fd ⟨[v], []⟩ [("_law_script", v)]) ∧ ∀ base : Heap, K.In base → base.Ns mainGlobals mg → FnG l.prog w K mg base 10 fa fd ["_law_script"] (spLaw K) := by
  have e := hfa.symm.trans (PySem.W.mg_of X G aLaw)
  cases e
  have FWh := fun_mk (st := sWhole) lWh cWh kWh
  have bWh := FWh.binds (ps := ["value"]) fun _ _ _ _ _ _ us hl => match us, hl with | [_], _ => rfl
  have gWh := PySem.W.mg_of X G aWh
  have FTo := fun_mk (st := sTupOf) lTo cTo kTo
  have bTo := FTo.binds (ps := ["value", "least", "most"]) fun _ _ _ _ _ _ us hl => match us, hl with | [_, _, _], _ => rfl
  have gTo := PySem.W.mg_of X G aTo
  have FOp := fun_mk (st := sOpt) lOp cOp kOp
  have bOp := FOp.binds (ps := ["instance", "group", "option"]) fun _ _ _ _ _ _ us hl => match us, hl with | [_, _, _], _ => rfl
  have gOp := PySem.W.mg_of X G aOp
  have FDm := fun_mk (st := sDem) lDm cDm kDm
  have bDm := FDm.binds (ps := ["instance"]) fun _ _ _ _ _ _ us hl => match us, hl with | [_], _ => rfl
  have gDm := PySem.W.mg_of X G aDm
  have FEx := fun_mk (st := sExc) lEx cEx kEx
  have bEx := FEx.binds (ps := ["instance"]) fun _ _ _ _ _ _ us hl => match us, hl with | [_], _ => rfl
  have gEx := PySem.W.mg_of X G aEx
  have FFr := fun_mk (st := sFre) lFr cFr kFr
  have bFr := FFr.binds (ps := ["instance"]) fun _ _ _ _ _ _ us hl => match us, hl with | [_], _ => rfl
  have gFr := PySem.W.mg_of X G aFr
  have FCl := fun_mk (st := sCla) lCl cCl kCl
  have bCl := FCl.binds (ps := ["instance"]) fun _ _ _ _ _ _ us hl => match us, hl with | [_], _ => rfl
  have gCl := PySem.W.mg_of X G aCl
  have FCr := fun_mk (st := sCro) lCr cCr kCr
  have bCr := FCr.binds (ps := ["instance"]) fun _ _ _ _ _ _ us hl => match us, hl with | [_], _ => rfl
  have gCr := PySem.W.mg_of X G aCr
  have FRe := fun_mk (st := sRes) lRe cRe kRe
  have bRe := FRe.binds (ps := ["instance", "group"]) fun _ _ _ _ _ _ us hl => match us, hl with | [_, _], _ => rfl
  have gRe := PySem.W.mg_of X G aRe
  have FSf := fun_mk (st := sSf) lSf cSf kSf
  have bSf := FSf.binds (ps := ["instance", "crowded", "reserves"]) fun _ _ _ _ _ _ us hl => match us, hl with | [_, _, _], _ => rfl
  have gSf := PySem.W.mg_of X G aSf
  have FIc := fun_mk (st := sIc) lIc cIc kIc
  have bIc := FIc.binds (ps := ["value", "posts"]) fun _ _ _ _ _ _ us hl => match us, hl with | [_, _], _ => rfl
  have gIc := PySem.W.mg_of X G aIc
  have FUp := fun_mk (st := sUp) lUp cUp kUp
  have bUp := FUp.binds (ps := ["instance"]) fun _ _ _ _ _ _ us hl => match us, hl with | [_], _ => rfl
  have gUp := PySem.W.mg_of X G aUp
  have FEc := fun_mk (st := sEc) lEc cEc kEc
  have bEc := FEc.binds (ps := ["instance", "crowded", "reserves"]) fun _ _ _ _ _ _ us hl => match us, hl with | [_, _, _], _ => rfl
  have gEc := PySem.W.mg_of X G aEc
  have FSt := fun_mk (st := sSt) lSt cSt kSt
  have bSt := FSt.binds (ps := ["_law_script"]) fun _ _ _ _ _ _ us hl => match us, hl with | [_], _ => rfl
  have gSt := PySem.W.mg_of X G aSt
  have FDr := fun_mk (st := sDr) lDr cDr kDr
  have bDr := FDr.binds (ps := ["_law_deck_here", "_law_many"]) fun _ _ _ _ _ _ us hl => match us, hl with | [_, _], _ => rfl
  have gDr := PySem.W.mg_of X G aDr
  have FGt := fun_mk (st := sGt) lGt cGt kGt
  have bGt := FGt.binds (ps := ["_law_deck_here", "_law_many"]) fun _ _ _ _ _ _ us hl => match us, hl with | [_, _], _ => rfl
  have gGt := PySem.W.mg_of X G aGt
  have FMx := fun_mk (st := sMx) lMx cMx kMx
  have bMx := FMx.binds (ps := ["_law_deck_here", "_law_row"]) fun _ _ _ _ _ _ us hl => match us, hl with | [_, _], _ => rfl
  have gMx := PySem.W.mg_of X G aMx
  have FLl := fun_mk (st := sLl) lLl cLl kLl
  have bLl := FLl.binds (ps := ["_law_row", "_law_post"]) fun _ _ _ _ _ _ us hl => match us, hl with | [_, _], _ => rfl
  have gLl := PySem.W.mg_of X G aLl
  have FFa := fun_mk (st := sFa) lFa cFa kFa
  have bFa := FFa.binds (ps := ["_law_deck_here", "_law_posts"]) fun _ _ _ _ _ _ us hl => match us, hl with | [_, _], _ => rfl
  have gFa := PySem.W.mg_of X G aFa
  have FFs := fun_mk (st := sFs) lFs cFs kFs
  have bFs := FFs.binds (ps := ["_law_instance"]) fun _ _ _ _ _ _ us hl => match us, hl with | [_], _ => rfl
  have gFs := PySem.W.mg_of X G aFs
  have FSh := fun_mk (st := sSh) lSh cSh kSh
  have bSh := FSh.binds (ps := ["_law_instance", "_law_crowded", "_law_reserves"]) fun _ _ _ _ _ _ us hl => match us, hl with | [_, _, _], _ => rfl
  have gSh := PySem.W.mg_of X G aSh
  have FSe := fun_mk (st := sSe) lSe cSe kSe
  have bSe := FSe.binds (ps := ["_law_posts"]) fun _ _ _ _ _ _ us hl => match us, hl with | [_], _ => rfl
  have gSe := PySem.W.mg_of X G aSe
  have FSi := fun_mk (st := sSi) lSi cSi kSi
  have bSi := FSi.binds (ps := ["_law_instance"]) fun _ _ _ _ _ _ us hl => match us, hl with | [_], _ => rfl
  have gSi := PySem.W.mg_of X G aSi
  have FLk := fun_mk (st := sLk) lLk cLk kLk
  have bLk := FLk.binds (ps := ["_law_instance", "_law_crowded", "_law_reserves"]) fun _ _ _ _ _ _ us hl => match us, hl with | [_, _, _], _ => rfl
  have gLk := PySem.W.mg_of X G aLk
  have FCh := fun_mk (st := sCh) lCh cCh kCh
  have bCh := FCh.binds (ps := ["_law_deck_here", "_law_row", "_law_others"]) fun _ _ _ _ _ _ us hl => match us, hl with | [_, _, _], _ => rfl
  have gCh := PySem.W.mg_of X G aCh
  have FIr := fun_mk (st := sIr) lIr cIr kIr
  have bIr := FIr.binds (ps := ["_law_value", "_law_posts"]) fun _ _ _ _ _ _ us hl => match us, hl with | [_, _], _ => rfl
  have gIr := PySem.W.mg_of X G aIr
  have FRi := fun_mk (st := sRi) lRi cRi kRi
  have bRi := FRi.binds (ps := ["_law_instance", "_law_crowded", "_law_reserves", "_law_sides_here"]) fun _ _ _ _ _ _ us hl => match us, hl with | [_, _, _, _], _ => rfl
  have gRi := PySem.W.mg_of X G aRi
  have FLaw := fun_mk (st := sLaw) lLaw cLaw kLaw
  have m_isinstance := PySem.W.mg_none_of X G z0
  have m_int := PySem.W.mg_none_of X G z1
  have m_bool := PySem.W.mg_none_of X G z2
  have m_tuple := PySem.W.mg_none_of X G z3
  have m_list := PySem.W.mg_none_of X G z4
  have m_len := PySem.W.mg_none_of X G z5
  have m_abs := PySem.W.mg_none_of X G z6
  have m_min := PySem.W.mg_none_of X G z7
  have m_max := PySem.W.mg_none_of X G z8
  have m_range := PySem.W.mg_none_of X G z9
  have m_zip := PySem.W.mg_none_of X G z10
  have m_all := PySem.W.mg_none_of X G z11
  have m_enumerate := PySem.W.mg_none_of X G z12
  have m_sum := PySem.W.mg_none_of X G z13
  have m_repr := PySem.W.mg_none_of X G z14
  have m_set := PySem.W.mg_none_of X G z15
  have m_sorted := PySem.W.mg_none_of X G z16
  have m_ValueError := PySem.W.mg_none_of X G z17
  have gBP := PySem.W.mg_of X G aCBP
  have IBP := isCB_ok iCBP
  have gVE := PySem.W.mg_of X G aCVE
  have IVE := isCB_ok iCVE
  have gNU := PySem.W.mg_of X G aCNU
  have INU := isCB_ok iCNU
  have XBP := xf1B_ok bXBP ⟨_, _, _, _, _, _, _, _, _, _, _, _, _, _, _, lXBP, vXBP⟩
  have FiBP := fun_mk (st := siBP) lIBP cIBP kIBP
  have biBP := FiBP.binds (ps := ["self", "value"]) fun _ _ _ _ _ _ us hl => match us, hl with | [_, _], _ => rfl
  refine ⟨PySem.W.fnOf "law" "law" (defArgs sLaw) (defBody sLaw) (defScope sLaw) .none kVLaw dcLaw pmLaw anLaw cdLaw ctLaw, fun s v => .of_eq rfl, fun base _ _ => ?_⟩
  have GiBP := ok_iBP (P := l.prog) (w := w) (base := base) (mg := mg) FiBP XBP
  have GWh := ok_whole (P := l.prog) (w := w) (base := base) (mg := mg) (k := 0) FWh m_isinstance m_int m_bool
  have GTo := ok_tupOf (P := l.prog) (w := w) (base := base) (mg := mg) (k := 0) FTo m_isinstance m_tuple m_len
  have GOp := ok_opt (P := l.prog) (w := w) (base := base) (mg := mg) (k := 0) FOp m_len
  have GDm := ok_dem (P := l.prog) (w := w) (base := base) (mg := mg) (k := 0) FDm m_len m_tuple
  have GEx := ok_exc (P := l.prog) (w := w) (base := base) (mg := mg) (k := 0) FEx FDm bDm gDm GDm m_tuple m_zip m_max
  have GFr := ok_fre (P := l.prog) (w := w) (base := base) (mg := mg) (k := 0) FFr FDm bDm gDm GDm m_tuple m_zip m_max
  have GCl := ok_cla (P := l.prog) (w := w) (base := base) (mg := mg) (k := 0) FCl FFr bFr gFr GFr m_tuple m_enumerate
  have GCr := ok_cro (P := l.prog) (w := w) (base := base) (mg := mg) (k := 0) FCr FEx bEx gEx GEx m_tuple m_enumerate
  have GRe := ok_res (P := l.prog) (w := w) (base := base) (mg := mg) (k := 0) FRe FCl bCl gCl GCl m_range m_len
  have GUp := ok_Up (P := l.prog) (w := w) (base := base) (mg := mg) FUp  FCl bCl gCl GCl   m_len m_range m_tuple
  have GIc := ok_Ic (P := l.prog) (w := w) (base := base) (mg := mg) FIc  FTo bTo gTo GTo FWh bWh gWh GWh   m_len m_all m_zip
  have GEc := ok_Ec (P := l.prog) (w := w) (base := base) (mg := mg) FEc  FRe bRe gRe GRe FOp bOp gOp GOp   m_enumerate m_len
  have GSf := ok_Sf (P := l.prog) (w := w) (base := base) (mg := mg) FSf  FCr bCr gCr GCr FIc bIc gIc GIc FUp bUp gUp GUp FEx bEx gEx GEx FFr bFr gFr GFr FEc bEc gEc GEc gBP XBP GiBP biBP  m_sum
  have GSt := ok_St (P := l.prog) (w := w) (base := base) (mg := mg) FSt     m_list m_len m_int m_abs
  have GDr := ok_Dr (P := l.prog) (w := w) (base := base) (mg := mg) FDr     m_len
  have GGt := ok_Gt (P := l.prog) (w := w) (base := base) (mg := mg) FGt  FDr bDr gDr GDr   
  have GMx := ok_Mx (P := l.prog) (w := w) (base := base) (mg := mg) FMx  FDr bDr gDr GDr   m_list m_len
  have GLl := ok_Ll (P := l.prog) (w := w) (base := base) (mg := mg) FLl     m_tuple
  have GFa := ok_Fa (P := l.prog) (w := w) (base := base) (mg := mg) FFa  FDr bDr gDr GDr FGt bGt gGt GGt FMx bMx gMx GMx FLl bLl gLl GLl   m_range m_max m_list m_tuple
  have GFs := ok_Fs (P := l.prog) (w := w) (base := base) (mg := mg) FFs     m_len m_range m_min
  have GSh := ok_Sh (P := l.prog) (w := w) (base := base) (mg := mg) FSh  FFs bFs gFs GFs   m_sum m_enumerate
  have GSe := ok_Se (P := l.prog) (w := w) (base := base) (mg := mg) FSe     
  have GSi := ok_Si (P := l.prog) (w := w) (base := base) (mg := mg) FSi  FFs bFs gFs GFs   m_len m_list m_range
  have GCh := ok_Ch (P := l.prog) (w := w) (base := base) (mg := mg) FCh  FDr bDr gDr GDr   m_list m_tuple m_sorted m_len
  have GIr := ok_Ir (P := l.prog) (w := w) (base := base) (mg := mg) FIr     m_tuple m_isinstance m_bool m_int m_list m_set m_sorted
  have GLk := ok_Lk (P := l.prog) (w := w) (base := base) (mg := mg) FLk FSf bSf gSf GSf gBP gVE gNU IBP XBP x1 x2 x3 x4 m_isinstance m_ValueError
  have GRi := ok_Ri (P := l.prog) (w := w) (base := base) (mg := mg) FRi  FIr bIr gIr GIr FSh bSh gSh GSh FLk bLk gLk GLk   m_repr
  exact ok_Law (P := l.prog) (w := w) (base := base) FLaw  FSt bSt gSt GSt FFa bFa gFa GFa FSi bSi gSi GSi FSe bSe gSe GSe FRi bRi gRi GRi FDr bDr gDr GDr FCh bCh gCh GCh   m_range m_tuple
end Pv

open PySem PySem.W PyProof.Rows
set_option maxRecDepth 100000 in
set_option maxHeartbeats 0 in
theorem PySem.Challenge.cw_postvote_k21_shortfalls_holds : PySem.Challenge.rw_postvote_k21_shortfalls.Holds := by
  w_on; o_law; k_head; (case hw => w_witness2)
  k_fill
  refine Pv.walkG (l := PySem.Challenge.rw_postvote_k21_shortfalls) (n := 63) (k := 10) (x := "_law_script") (sp := fun w => Pv.spLaw _) rfl (by decide) rfl ⟨rfl, by decide, by decide⟩ (fun w h Y => PySem.W.kIn_of Y) ?F (fun _ _ a ns hl _ _ hS => ⟨a, ns, rfl, hS, hl, fun _ => rfl⟩)
  case F =>
    intro w mg fa h KX G hmg
    refine' Pv.all_mk KX G hmg ?aWh ?lWh ?cWh ?kWh ?aTo ?lTo ?cTo ?kTo ?aOp ?lOp ?cOp ?kOp ?aDm ?lDm ?cDm ?kDm ?aEx ?lEx ?cEx ?kEx ?aFr ?lFr ?cFr ?kFr ?aCl ?lCl ?cCl ?kCl ?aCr ?lCr ?cCr ?kCr ?aRe ?lRe ?cRe ?kRe ?aSf ?lSf ?cSf ?kSf ?aIc ?lIc ?cIc ?kIc ?aUp ?lUp ?cUp ?kUp ?aEc ?lEc ?cEc ?kEc ?aSt ?lSt ?cSt ?kSt ?aDr ?lDr ?cDr ?kDr ?aGt ?lGt ?cGt ?kGt ?aMx ?lMx ?cMx ?kMx ?aLl ?lLl ?cLl ?kLl ?aFa ?lFa ?cFa ?kFa ?aFs ?lFs ?cFs ?kFs ?aSh ?lSh ?cSh ?kSh ?aSe ?lSe ?cSe ?kSe ?aSi ?lSi ?cSi ?kSi ?aLk ?lLk ?cLk ?kLk ?aCh ?lCh ?cCh ?kCh ?aIr ?lIr ?cIr ?kIr ?aRi ?lRi ?cRi ?kRi ?aLaw ?lLaw ?cLaw ?kLaw ?z0 ?z1 ?z2 ?z3 ?z4 ?z5 ?z6 ?z7 ?z8 ?z9 ?z10 ?z11 ?z12 ?z13 ?z14 ?z15 ?z16 ?z17 ?aCBP ?iCBP ?aCVE ?iCVE ?aCNU ?iCNU ?lXBP ?vXBP ?nXBP ?lIBP ?cIBP ?kIBP ?bXBP ?x1 ?x2 ?x3 ?x4
    (case aWh => k_is); (case lWh => k_is); (case cWh => k_is); (case kWh => k_is); (case aTo => k_is); (case lTo => k_is); (case cTo => k_is); (case kTo => k_is); (case aOp => k_is); (case lOp => k_is); (case cOp => k_is); (case kOp => k_is); (case aDm => k_is); (case lDm => k_is); (case cDm => k_is); (case kDm => k_is); (case aEx => k_is); (case lEx => k_is); (case cEx => k_is); (case kEx => k_is); (case aFr => k_is); (case lFr => k_is); (case cFr => k_is); (case kFr => k_is); (case aCl => k_is); (case lCl => k_is); (case cCl => k_is); (case kCl => k_is); (case aCr => k_is); (case lCr => k_is); (case cCr => k_is); (case kCr => k_is); (case aRe => k_is); (case lRe => k_is); (case cRe => k_is); (case kRe => k_is); (case aSf => k_is); (case lSf => k_is); (case cSf => k_is); (case kSf => k_is); (case aIc => k_is); (case lIc => k_is); (case cIc => k_is); (case kIc => k_is); (case aUp => k_is); (case lUp => k_is); (case cUp => k_is); (case kUp => k_is); (case aEc => k_is); (case lEc => k_is); (case cEc => k_is); (case kEc => k_is); (case aSt => k_is); (case lSt => k_is); (case cSt => k_is); (case kSt => k_is); (case aDr => k_is); (case lDr => k_is); (case cDr => k_is); (case kDr => k_is); (case aGt => k_is); (case lGt => k_is); (case cGt => k_is); (case kGt => k_is); (case aMx => k_is); (case lMx => k_is); (case cMx => k_is); (case kMx => k_is); (case aLl => k_is); (case lLl => k_is); (case cLl => k_is); (case kLl => k_is); (case aFa => k_is); (case lFa => k_is); (case cFa => k_is); (case kFa => k_is); (case aFs => k_is); (case lFs => k_is); (case cFs => k_is); (case kFs => k_is); (case aSh => k_is); (case lSh => k_is); (case cSh => k_is); (case kSh => k_is); (case aSe => k_is); (case lSe => k_is); (case cSe => k_is); (case kSe => k_is); (case aSi => k_is); (case lSi => k_is); (case cSi => k_is); (case kSi => k_is); (case aLk => k_is); (case lLk => k_is); (case cLk => k_is); (case kLk => k_is); (case aCh => k_is); (case lCh => k_is); (case cCh => k_is); (case kCh => k_is); (case aIr => k_is); (case lIr => k_is); (case cIr => k_is); (case kIr => k_is); (case aRi => k_is); (case lRi => k_is); (case cRi => k_is); (case kRi => k_is); (case aLaw => k_is); (case lLaw => k_is); (case cLaw => k_is); (case kLaw => k_is); (case z0 => k_is); (case z1 => k_is); (case z2 => k_is); (case z3 => k_is); (case z4 => k_is); (case z5 => k_is); (case z6 => k_is); (case z7 => k_is); (case z8 => k_is); (case z9 => k_is); (case z10 => k_is); (case z11 => k_is); (case z12 => k_is); (case z13 => k_is); (case z14 => k_is); (case z15 => k_is); (case z16 => k_is); (case z17 => k_is); (case aCBP => k_is); (case iCBP => kernel_rfl); (case aCVE => k_is); (case iCVE => kernel_rfl); (case aCNU => k_is); (case iCNU => kernel_rfl); (case lXBP => k_is); (case vXBP => kernel_rfl); (case nXBP => k_is); (case lIBP => k_is); (case cIBP => k_is); (case kIBP => k_is); (case bXBP => kernel_rfl); (case x1 => kernel_rfl); (case x2 => kernel_rfl); (case x3 => kernel_rfl); (case x4 => kernel_rfl)
