import PyProof.Rows.All
import Wide.All
import OpenK.AllK
import Wide.FinOn
import HandS.ForMost
import HandS.Conv
import HandS.Zip
import HandS.Walk
import HandS.IsInst
import HandS.Wide
import HandS.EndBits
import HandS.TupAny
import HandS.TupMul
import HandS.Style
import HandS.Deep
import HandS.NoneIn
import HandS.TupLe
import KE.GoesMore
import KE.GoesZip
import HandS.Dict
import HandS.Codes
import HandS.Exc
import HandS.ExcOwn
import HandS.WordsExc
import HandS.ExcField
import HandS.ExcInit
import KE.KExcIs
import HandS.Star
import PySem.Challenge.RW_postvote_k06_results_and_votes
set_option Elab.async false
set_option linter.all false
set_option maxRecDepth 100000
namespace Pv
open PySem PySem.Spec PyProof.Rows L2

/-! heaps -/
theorem upNew {H : Hp} {p b : Addr} {o z : HO} (np : H p = none) (h : H b = some z) : upd H p o b = some z := by
  rw [upd_ne (ne_of_none h np)]; exact h
theorem sameNew {H : Hp} {p : Addr} {o : HO} (np : H p = none) : Same H (upd H p o) := fun _ _ e => upNew np e

/-! a def that is called where no repr is under way -/
structure FnG (P : Program) (w : World) (K : PySem.W.Frag) (mg : Str → Option Value) (base : Heap) (k : Nat) (f : Addr) (fd : FuncData) (ps : List Str) (sp : Sp) : Prop where
  cnt : ∀ vs H Q E, sp vs H Q E → vs.length = ps.length
  go : ∀ (A : Around) (outer : List Env) (s : Shared) (H : Hp) (args : Args) (us : List Value) (vs : List V) (Q : VK) (E : XK),
    A.guards = some [] → Room k A → Env0 P w K mg base A outer s H → BindsTo s fd args (ps.zip us) → Vals vs us →
    sp vs H Q E → codeAny (model P w) A (.call (.ref f) args) (CR CX0 outer P w H s Q E) s
section
variable {P : Program} {w : World} {K : PySem.W.Frag} {mg : Str → Option Value} {base : Heap}
theorem okG {x qual : Str} {st : Stmt} {f : Addr} {fd : FuncData} {N ps : List Str} {k : Nat} {sp : Sp}
    (F : Fun K x qual st f fd) (S : FnScope N ps (defScope st)) (cnt : ∀ vs H Q E, sp vs H Q E → vs.length = ps.length)
    (hbody : ∀ (cdv : Value) (A : Around) (outer : List Env) (s : Shared) (H : Hp) (vs : List V) (Q : VK) (E : XK),
      A.guards = some [] → Room k (A.deeper (envOfC qual (defScope st) s.heap.objs.size f cdv)) → sp vs H Q E →
      ∃ t, PSs (cxOf CX0 P w K mg base N qual (defScope st) f cdv A outer s H E).nox (defBody st) t ∧
        t { nx := fun _ H' => Q .non H', rt := Q } (start N vs) H) : FnG P w K mg base (k + 1) f fd ps sp := by
  obtain ⟨oc, od, kV, doc, pm, an, cdv, ct, osl, rfl, lk, hcd⟩ := F.ex
  refine ⟨cnt, ?_⟩
  intro A outer s H args us vs Q E hgd hr e0 hb r hsp
  have hl := cnt vs H Q E hsp
  have kk : ∀ b o, base.get? b = some o → s.heap.get? b = some o := fun b o e => (e0.bs b o e).1
  have KX : K.In s.heap := e0.mod.kin.keeps kk
  have lim : s.heap.NoLimit := e0.mod.nolimit.keeps kk
  refine codeAny_call_function hr.depth (KX _ _ lk) rfl S.co S.gen rfl (PySem.W.codeRec_of KX hcd)
    (hb _ _ _ _ (wpAny_newFunctionEnv_cells S.kind ?_ ?_))
  · rintro ⟨n, v⟩ hy
    rcases S.par n (List.of_mem_zip hy).1 with q | q
    · left; exact q
    · right; exact ⟨q, PySem.W.cellsFrom_some _ _ _ (Or.inl q)⟩
  · intro env he s1 x
    cases he
    refine ⟨lim.keeps x.toInCall.keep, ?_⟩
    apply codeAny_func
    obtain ⟨t, ht0, hq⟩ := hbody cdv A outer s H vs Q E hgd (hr.deeper _) hsp
    have ht := ht0.nox
    have I := inv_start (CX := CX0) (f := f) (qual := qual) (E := E) S hr.hd e0 hl r x
    refine wpAny_mono (ht.run [] s1 (start N vs) H _ I hq) ?_ (fun _ _ z => z)
    intro fl s' hs
    cases fl with
    | ret u => obtain ⟨v, σ', H', J, rv, q⟩ := hs; exact ⟨v, H', J.os, J.bare, J.base, J.hok, rv, q⟩
    | next => obtain ⟨σ', H', J, q⟩ := hs; exact ⟨V.non, H', J.os, J.bare, J.base, J.hok, rfl, q⟩
    | brk => obtain ⟨_, _, _, q⟩ := hs; exact q.elim
    | cont => obtain ⟨_, _, _, q⟩ := hs; exact q.elim
end
section
variable {X : Cx} {k : Nat} {f : Addr} {fd : FuncData} {ps : List Str} {sp : Sp} {x : Str} {p pos : Pos} {e : Expr} {es : List Expr} {t : TA}
theorem pe_callG (F : FnG X.prog X.w X.K X.mg X.base k f fd ps sp) (hgd : X.A.guards = some []) (hr : Room k X.A) (hg : Gl X x)
    (hm : X.mg x = some (.ref f)) (hk : PySem.W.keepIn X.K (.ref f) = true) (hb : Binds X.K fd ps []) (ha : PA X (e :: es) t)
    (hdb : (x == ("__debug__" : Str)) = false := by decide) (he : starEach (e :: es) X.env = (false, eval e X.env) :: starEach es X.env := by rfl)
    (hpl : (backTo pos (starEach es X.env)).any (·.1) = false := by rfl) :
    PE X (.Call (.Name x p) (e :: es) [] pos) (tCall sp [] E0 t) := by
  constructor
  intro pins s σ H Q I h
  refine wpAny_Call_Name_kw (ld_glob I hg hm ?_ hdb)
  refine PySem.W.callWith_K (h₀ := X.base) I.ok.mod.kin hk (thn (ha.run pos pins s σ H _ I h) ?_) he hpl
  rintro us s1 ⟨vs, H1, I1, r, q⟩
  refine ⟨I1.kIn, ?_⟩
  have r2 : Vals (vs ++ []) (us ++ []) := r.append .nil
  have hl : (us ++ []).length = ps.length := by rw [← r2.length]; exact F.cnt _ _ _ _ q
  refine wpAny_call (codeAny_mono (F.go X.A X.stack s1 H1 ⟨us, []⟩ (us ++ []) (vs ++ []) Q E0 hgd hr I1.env0 (hb s1 us I1.kIn hl) r2 q) ?_)
  intro rr s' hq
  match rr, hq with
  | .error e, hq => exact hq.elim
  | .ok (.ret u), hq => exact I1.after hq
  | .ok .next, hq => exact hq.elim
  | .ok .brk, hq => exact hq.elim
  | .ok .cont, hq => exact hq.elim
end
theorem lawG {P : Program} {w : World} {K : PySem.W.Frag} {mg mb : Str → Option Value} {k : Nat} {fa a : Addr} {fd : FuncData} {x : Str} {sp : Sp}
    {s₁ : Shared} {vs : List Value} {ns : List Int} (KX : K.In s₁.heap) (hns : s₁.heap.Ns mainGlobals mg) (hb : s₁.heap.Ns builtinsNs mb)
    (hbb : ∀ x : Str, x ≠ "__name__" → mb x = bootBuiltins x) (hlim : s₁.heap.NoLimit) (hg : s₁.gens = #[])
    (ha : s₁.heap.get? a = some { cls := .type "list", data := .seq vs.toArray }) (hi : IntsAre vs ns) (hl : ns.length ≤ sizeLine)
    (hr : Room k callerA) (F : ∀ base : Heap, K.In base → base.Ns mainGlobals mg → FnG P w K mg base k fa fd [x] sp)
    (hbind : ∀ (s : Shared) (u : Value), BindsTo s fd ⟨[u], []⟩ [(x, u)])
    (hsp : ∀ H : Hp, Only H → SqL K H a (ns.map V.int) → sp [.ref a] H (fun v _ => v = .bl true) E0) :
    codeAny (model P w) callerA (.call (.ref fa) ⟨[.ref a], []⟩)
      (fun r s' => r = .ok (.ret (.bool true)) ∧ OldK s₁.heap s'.heap ∧ s'.os = s₁.os ∧ AllBare s'.gens) s₁ := by
  have rv := vals_ints hi
  have lenV := hi.length
  have core : ∀ H : Hp, Only H → SqL K H a (ns.map V.int) → HOk P w H s₁.heap → (∀ b, H b ≠ none → b = a) → (H a ≠ none → K.lookup a = none) →
      codeAny (model P w) callerA (.call (.ref fa) ⟨[.ref a], []⟩)
        (fun r s' => r = .ok (.ret (.bool true)) ∧ OldK s₁.heap s'.heap ∧ s'.os = s₁.os ∧ AllBare s'.gens) s₁ := by
    intro H hO hS hok hA hK
    have noD : ∀ {b : Addr} {o : Obj} {es : Array DictEntry} {ep : Nat}, s₁.heap.get? b = some o → o.data = .dict es ep → H b = none := by
      intro b o es ep e d
      match q : H b with
      | none => rfl
      | some u =>
        obtain rfl : b = a := hA b (by rw [q]; simp)
        rw [ha] at e
        cases e
        exact absurd d (by intro z; cases z)
    have nsK : ∀ {b : Addr} {m : Str → Option Value}, s₁.heap.Ns b m → (hidT s₁.heap H).Ns b m := by
      rintro b m ⟨o, es, ep, e, d, r⟩
      exact ⟨o, es, ep, hidT_get e (noD e d), d, r⟩
    have hKb : K.In (hidT s₁.heap H) := by
      intro b o e
      refine hidT_get (KX b o e) ?_
      match q : H b with
      | none => rfl
      | some u =>
        obtain rfl : b = a := hA b (by rw [q]; simp)
        rw [hK (by rw [q]; simp)] at e
        cases e
    have hM : Mod K mg (hidT s₁.heap H) := by
      obtain ⟨mc, h1, h2⟩ := hlim
      exact ⟨hKb, nsK hns, ⟨mb, nsK hb, hbb⟩, ⟨mc, nsK h1, h2⟩⟩
    have e0 : Env0 P w K mg (hidT s₁.heap H) callerA [] s₁ H :=
      ⟨rfl, hM, fun b o e => of_hidT e, Nat.le_of_eq (hidT_size _ _), trivial, (fun b hb => by cases hb), hok, .of_eq hg⟩
    refine codeAny_mono ((F _ hKb (nsK hns)).go callerA [] s₁ H ⟨[.ref a], []⟩ [.ref a] [.ref a] _ _ rfl hr e0 (hbind s₁ (.ref a)) (.cons rfl .nil) (hsp H hO hS)) ?_
    intro r s' h
    match r, h with
    | .error e, h => exact h.elim
    | .ok .next, h => exact h.elim
    | .ok .brk, h => exact h.elim
    | .ok .cont, h => exact h.elim
    | .ok (.ret u), h =>
      obtain ⟨v, H', os, bare, un, hok', r', q⟩ := h
      cases (show v = V.bl true from q)
      cases (show u = Value.bool true from r')
      refine ⟨rfl, OldK.of_keep ?_, os, bare⟩
      intro b o e
      match q : H b with
      | none => exact un.keep b o e q (by intro z; cases z) (by intro z; cases z)
      | some u =>
        rcases hO b with z | ⟨ob, xs, z⟩
        · rw [q] at z; cases z
        · obtain ⟨e1, _⟩ := hok b _ z
          obtain ⟨e2, _⟩ := hok' b _ (un.frzs b ob _ z)
          rw [e] at e1
          cases e1
          exact e2
  match hk : K.lookup a with
  | some o =>
    have e := KX a o hk
    rw [ha] at e
    cases e
    refine core (fun _ => none) (fun _ => .inl rfl) (.inr ⟨_, vs.toArray, _, hk, rfl, rfl, rfl, ?_, by simpa using rv⟩) (fun b u z => by cases z) (fun b z => absurd rfl z) (fun z => absurd rfl z)
    rw [List.size_toArray, lenV]; exact hl
  | none =>
    let HA : Hp := fun b => if b = a then some (.frz { cls := .type "list", data := .seq vs.toArray } (.lst (ns.map V.int))) else none
    have at_a : HA a = some (.frz { cls := .type "list", data := .seq vs.toArray } (.lst (ns.map V.int))) := if_pos rfl
    have at_ne : ∀ b, b ≠ a → HA b = none := fun b h => if_neg h
    refine core HA ?_ (.inl (.inr ⟨_, at_a⟩)) ?_ ?_ (fun _ => hk)
    · intro b
      by_cases hb : b = a
      · subst hb; exact .inr ⟨_, _, at_a⟩
      · exact .inl (at_ne b hb)
    · intro b u z
      by_cases hb : b = a
      · subst hb
        rw [at_a] at z
        cases z
        exact ⟨ha, by rw [List.length_map]; exact hl, vs, _, rv, ha⟩
      · rw [at_ne b hb] at z; cases z
    · intro b z
      by_cases hb : b = a
      · exact hb
      · exact absurd (at_ne b hb) z
theorem walkG {l : PySem.W.OpenLaw} {n k : Nat} {q : Program} {loose : List Str} {XP : (Str → Option Value) → Heap → Prop} {YP : World → Heap → Prop}
    {d : DefRec} {K : Params → PySem.W.Frag} {sp : World → Sp} {x : Str} (hn : l.most = some n) (hn2 : n ≤ sizeLine) (hdf : d.params.defaults = [])
    (hr : Room k callerA) (hY : ∀ (w : World) (h : Heap), YP w h → (K w.params).In h)
    (F : ∀ (w : World) (mg : Str → Option Value) (fa : Addr) (h : Heap), (K w.params).In h → h.Ns mainGlobals mg → mg d.name = some (.ref fa) →
      ∃ fd : FuncData, (∀ (s : Shared) (u : Value), BindsTo s fd ⟨[u], []⟩ [(x, u)]) ∧
        ∀ base : Heap, (K w.params).In base → base.Ns mainGlobals mg → FnG l.prog w (K w.params) mg base k fa fd [x] (sp w))
    (hsp : ∀ (w : World) (H : Hp) (a : Addr) (ns : List Int), ns.length ≤ n → (∀ z ∈ ns, Builtin.Int.intBits z ≤ 1048576) → Only H →
      SqL (K w.params) H a (ns.map V.int) → sp w [.ref a] H (fun v _ => v = .bl true) E0) :
    PySem.W.WalkO q loose XP YP l.row.toRowW d [] (fun f vs => PySem.call f vs) := by
  refine Att.attach_callB hn hdf ?_
  intro w s₀ s₁ mg mb fa o pm cd doc a vs ns G Y ho hd hcd hmg hobj hints hlen hbits hg
  have KX := hY w _ Y
  obtain ⟨fd, hb, hF⟩ := F w mg fa _ KX G.T.g hmg
  exact lawG KX G.T.g G.T.b G.T.builtins G.T.nolimit hg hobj hints (Nat.le_trans hlen hn2) hr hF hb (fun H hO hS => hsp w H a ns hlen hbits hO hS)

/-! repr of data -/
theorem call_reprD {X : Cx} (hg : X.A.guards = some []) (hu : X.A.units + 70 < cLine) : CallR X (.builtin "repr")
    (fun xs H Q => ∃ a d, xs = [.ref a] ∧ Dp X.K H (.ref a) d ∧ d.showable = true ∧ d.hasDict = false ∧ d.depth ≤ 60 ∧
      d.shown.length ≤ sizeLine ∧ Q (.str d.shown) H) := by
  intro pins s σ H xs us Q I r h
  obtain ⟨a, d, rfl, hd, h1, h2, h3, h4, q⟩ := h
  obtain ⟨u, rfl, rfl⟩ := vals1 r
  obtain ⟨as, rd⟩ := Dp.reads I d _ _ hd rfl
  exact repr_of_reads' rd h1 (PyData.noDict_hsm h2) hg (by omega) (fun _ _ e => e) (fun h' u tk hk => ⟨.str _, H, I.kept hk, ⟨_, rfl⟩, q⟩) h4
end Pv

namespace Pv
open PySem PySem.Spec PyProof.Rows L2
theorem tup_mul0 (l : Addr) (items : Array Value) (n : Nat) (dd : Option Addr) (sl : Array (Option Value)) (u : Tok) (hi : items.isEmpty = false) :
    Meets (Builtin.«tuple.__mul__» ⟨[.ref l, .int ((0 : Nat) : Int) u], []⟩) (fun _ R s => s.heap.get? l = some { cls := .type "tuple", dict := dd, data := .seq items n, slots := sl } ∧
      R (.ok (.ret (Value.ref s.heap.objs.size))) { s with heap := s.heap.push { cls := Value.type "tuple", data := Data.seq #[] }, toks := s.toks }) :=
  .of_wp fun prog w A R s h => by
    obtain ⟨hp, g, d, tk, os⟩ := s
    obtain ⟨hl, h⟩ := h
    have f1 := AutoSeq1.idx_int
    wp_walk using AutoSeq1.wpAny_loadPart' hl
    repeat (first
      | (refine wpAny_ite_false (decide_eq_false (by simp [hi])) ?_; wp_walk using AutoSeq1.wpAny_loadPart' hl)
      | (refine wpAny_ite_true (decide_eq_true (by simp [hi])) ?_; wp_walk using AutoSeq1.wpAny_loadPart' hl))
    exact ⟨_, rfl, h⟩
theorem tup_mul1 (l : Addr) (items : Array Value) (n : Nat) (dd : Option Addr) (sl : Array (Option Value)) (u : Tok) :
    Meets (Builtin.«tuple.__mul__» ⟨[.ref l, .int ((1 : Nat) : Int) u], []⟩) (fun _ R s => s.heap.get? l = some { cls := .type "tuple", dict := dd, data := .seq items n, slots := sl } ∧
      R (.ok (.ret (Value.ref l))) s) :=
  .of_wp fun prog w A R s h => by
    obtain ⟨hp, g, d, tk, os⟩ := s
    obtain ⟨hl, h⟩ := h
    have f1 := AutoSeq1.idx_int
    wp_walk using AutoSeq1.wpAny_loadPart' hl
    repeat (first
      | (refine wpAny_ite_false (decide_eq_false (by simp)) ?_; wp_walk using AutoSeq1.wpAny_loadPart' hl)
      | (refine wpAny_ite_true (decide_eq_true (by simp)) ?_; wp_walk using AutoSeq1.wpAny_loadPart' hl))
    exact ⟨_, rfl, h⟩
def rRepA (K : PySem.W.Frag) : R2 := fun x y H Q => ∃ (l : Addr) (k : Nat) (xs : List V), x = .ref l ∧ y = .int k ∧ SqT K H l xs ∧ xs ≠ [] ∧ k ≤ 1000 ∧ xs.length ≤ 1000 ∧
    (k = 1 → Q (.ref l) H) ∧ (k ≠ 1 → ∀ p, H p = none → Q (.ref p) (upd H p (.tup (List.replicate k xs).flatten)))
abbrev RC := List V → Hp → VK → Prop
def rLenQ (K : PySem.W.Frag) : RC := fun xs H Q => ∃ (p : Addr) (ys : List V), xs = [.ref p] ∧ (SqL K H p ys ∨ SqT K H p ys) ∧ Q (.int ys.length) H
def rTupQ (K : PySem.W.Frag) : RC := fun xs H Q => ∃ (p : Addr) (ys : List V), xs = [.ref p] ∧ ((SqL K H p ys ∧ ∀ l, H l = none → Q (.ref l) (upd H l (.tup ys))) ∨ (SqT K H p ys ∧ Q (.ref p) H))
section
variable {X : Cx}
theorem call_lenQ : CallR X (.builtin "len") (rLenQ X.K) := call_len_seq
theorem call_tupQ : CallR X (.type "tuple") (rTupQ X.K) := call_tuple_of
/-- o[i] of a list, for o[i] += e -/
theorem get_list : PGet X (fun o i H Q => ∃ (p : Addr) (xs : List V) (j : Nat) (v : V), o = .ref p ∧ i = .int j ∧ SqL X.K H p xs ∧ xs[j]? = some v ∧ Q v H) := by
  intro pins s σ H o i ov iv Q I ro ri h
  obtain ⟨p, xs, j, v, rfl, rfl, hq, he, q⟩ := h
  cases ro
  obtain ⟨t, rfl⟩ := ri
  obtain ⟨its, r, pl, hz⟩ := I.list hq
  obtain ⟨u, eu, ru⟩ := r.get he
  have hj : j < its.length := (List.getElem?_eq_some_iff.mp eu).1
  have hl := r.length
  have hn := line63
  exact wpAny_getItem_list pl.isList (by omega) (by omega) (by simpa using eu) ⟨v, H, I, ru, q⟩
/-- tuple * int -/
theorem op_repA : OpR X (binaryOp .Mult) (rRepA X.K) := by
  intro pins s σ H x y v u Q I rx ry h
  obtain ⟨l, k, xs, rfl, rfl, hT, hne, h2, hz, q1, q2⟩ := h
  by_cases hk2 : 2 ≤ k
  · exact op_repT pins s σ H _ _ v u Q I rx ry ⟨l, k, xs, rfl, rfl, hT, hne, by omega, by omega, hz, by simpa using q2 (by omega)⟩
  cases rx
  obtain ⟨t, rfl⟩ := ry
  obtain ⟨its, r, ⟨⟨cls, dd, data, sl⟩, ho, hc, n, hd⟩, hs⟩ := I.tuple hT
  simp only at hc hd
  subst hc hd
  have hi : its.toArray.isEmpty = false := by
    cases its with
    | nil => exact absurd (List.eq_nil_of_length_eq_zero (by simpa using r.length)) hne
    | cons a b => rfl
  refine wpAny_binaryOp_repeat_ref (T := "tuple") (U := "int") (by decide) ⟨_, ho, rfl⟩ (fun s' => typeIs_int s' k t) noFill_tuple_mul F.fills_int_mul F.slot_int_rmul repeat_tuple F.slot_int_index.lookup
    (call_meets F.slot_int_rmul (typeIs_int s k t) F.entry_int_rmul (F.args_int_rmul_2 _ _) (int_rmul_tuple k t l its.toArray n dd sl)
      ⟨ho, rfl, ⟨_, ho, rfl⟩, ?_⟩)
  obtain hk | hk : k = 0 ∨ k = 1 := by omega
  · subst hk
    refine call_meets F.slot_tuple_mul (show s.TypeIs (.ref l) "tuple" from ⟨_, ho, rfl⟩) F.entry_tuple_mul (F.args_tuple_mul_2 _ _) (tup_mul0 l its.toArray n dd sl t hi) ⟨ho, ?_⟩
    refine ⟨.ref s.heap.objs.size, _, I.laid (t' := s.toks) (o := .tup []) (fun b ob q => Heap.get?_push_of_some _ q) (Nat.le_refl _) ?_, rfl, q2 (by decide) _ (I.hok.fresh (Nat.le_refl _))⟩
    exact ⟨Nat.zero_le _, [], .nil, IsTup.new _ _⟩
  · subst hk
    exact call_meets F.slot_tuple_mul (show s.TypeIs (.ref l) "tuple" from ⟨_, ho, rfl⟩) F.entry_tuple_mul (F.args_tuple_mul_2 _ _) (tup_mul1 l its.toArray n dd sl t) ⟨ho, ⟨.ref l, H, I, rfl, q1 rfl⟩⟩
/-- sum of a tuple of ints -/
theorem call_sumT (hc : X.calm = true) : CallR X (.builtin "sum") (fun xs H Q => ∃ (a : Addr) (ns : List Int), xs = [.ref a] ∧ SqT X.K H a (ns.map V.int) ∧ Q (.int ns.sum) H) := by
  intro pins s σ H xs us Q I r h
  obtain ⟨a, ns, rfl, hT, q⟩ := h
  obtain ⟨u, rfl, rfl⟩ := vals1 r
  obtain ⟨its, rv, ht, hz⟩ := I.tuple hT
  have hi : IntsAre its ns := rv.ints
  obtain ⟨ys, e⟩ := hi.allInts.items
  have hn : numsOf (intItems ys).toList = ns := by rw [← e]; exact hi.numsOf
  rw [nums_intItems] at hn
  rw [e] at ht
  have ht' : s.heap.IsTuple a (intItems ys) := ht
  have hlt : a < s.heap.objs.size := by obtain ⟨_, z, _⟩ := ht; exact Heap.lt_size z
  refine call_sum_walkG (wpAny_pyIter_tuple ht' ?_)
  refine ⟨_, _, _, _, _, _, numAt ys, rfl, Walks.tuple (A := X.A.in1) (I.ok.hd hc) _ a (Nat.ne_of_lt hlt) (intItems ys), ⟨⟨_, Heap.get?_push_size _ rfl, rfl, rfl⟩, ht'.push _⟩, ?_, (fun _ _ => intItems_at), ?_⟩
  · intro b hb
    show b < (s.heap.push _).objs.size
    rw [Heap.size_push]
    simp only [List.mem_cons, List.not_mem_nil, or_false] at hb
    rcases hb with rfl | rfl
    · exact Nat.lt_succ_self _
    · exact Nat.lt_succ_of_lt hlt
  · intro h' tk t' hk
    have eq : preSum (numAt ys) (intItems ys).size = ns.sum := by
      rw [preSum_eq, List.take_of_length_le (by simp [intItems]), hn]
    rw [eq]
    refine ⟨.int _, H, I.kept (t' := tk) (h' := h') ?_, ⟨_, rfl⟩, q⟩
    intro b o eb
    refine hk b o (fun hm => ?_) (Heap.get?_push_of_some _ eb)
    exact absurd (Heap.lt_size eb) ((List.mem_singleton.mp hm) ▸ Nat.lt_irrefl _)
end
theorem walk_zipT {K : PySem.W.Frag} {a b : Addr} {xs ys : List V} {n : Nat} (hn : n = min xs.length ys.length) :
    Walk (RZ.ItzT K a b) n (fun H => SqT K H a xs ∧ SqT K H b ys) (YPair (fun i => xs[i]?) (fun i => ys[i]?)) := by
  subst hn
  constructor
  · rintro i H hi ⟨q1, q2⟩
    have h1 : i < xs.length := by omega
    have h2 : i < ys.length := by omega
    exact ⟨xs, ys, xs[i], ys[i], q1, q2, by simp [h1], by simp [h2]⟩
  · rintro H ⟨q1, q2⟩
    exact ⟨xs, ys, q1, q2, by omega⟩
  · rintro i H v H' _ ⟨q1, q2⟩ ⟨T, x, z, h1, h2, h3, h4, h5⟩
    exact ⟨T, x, z, h1, h2, h3, h4 xs q1, h5 ys q2⟩
end Pv

namespace Pv
open PySem PySem.Spec PyProof.Rows L2

/-! tuples never change -/
def TupK (H H' : Hp) : Prop := ∀ b xs, Rd H b (.tup xs) → Rd H' b (.tup xs)
theorem TupK.refl (H : Hp) : TupK H H := fun _ _ h => h
theorem TupK.trans {H H1 H2 : Hp} (a : TupK H H1) (b : TupK H1 H2) : TupK H H2 := fun c xs h => b c xs (a c xs h)
theorem TupK.of {H H' : Hp} (s : Same H H') : TupK H H' := by
  rintro b xs (h | ⟨o, h⟩)
  · exact .inl (s _ _ h)
  · exact .inr ⟨o, s _ _ h⟩
theorem TupK.new {H : Hp} {p : Addr} {o : HO} (np : H p = none) : TupK H (upd H p o) := .of (sameNew np)
theorem TupK.put {H : Hp} {p : Addr} {o : HO} {ys : List V} (e : H p = some (.lst ys)) : TupK H (upd H p o) := by
  rintro b xs (h | ⟨u, h⟩)
  · exact .inl (by rw [upd_ne (ne_of h e (by intro z; cases z))]; exact h)
  · exact .inr ⟨u, by rw [upd_ne (ne_of h e (by intro z; cases z))]; exact h⟩
theorem TupK.sq {K : PySem.W.Frag} {H H' : Hp} {a : Addr} {xs : List V} (s : TupK H H') (h : SqT K H a xs) : SqT K H' a xs := by
  rcases h with h | h
  · exact .inl (s _ _ h)
  · exact .inr h

mutual
def tupOnly : PyData → Bool
  | .none | .bool _ | .int _ | .str _ => true
  | .tuple xs => tupOnlyAll xs
  | .list _ | .dict _ => false
def tupOnlyAll : List PyData → Bool
  | [] => true
  | x :: xs => tupOnly x && tupOnlyAll xs
end
mutual
theorem TupK.dp {K : PySem.W.Frag} {H H' : Hp} (s : TupK H H') : ∀ (d : PyData) (v : V), tupOnly d = true → Dp K H v d → Dp K H' v d
  | .none, v, _, h => by cases h; exact .non
  | .bool b, v, _, h => by cases h; exact .bl _
  | .int b, v, _, h => by cases h; exact .int _
  | .str b, v, _, h => by cases h; exact .str _
  | .tuple xs, v, t, h => by
    cases h with
    | tup hs ha => exact .tup (s.sq hs) (TupK.dpAll s xs _ (by simpa [tupOnly] using t) ha)
  | .list _, v, t, _ => by simp [tupOnly] at t
  | .dict _, v, t, _ => by simp [tupOnly] at t
theorem TupK.dpAll {K : PySem.W.Frag} {H H' : Hp} (s : TupK H H') : ∀ (ds : List PyData) (vs : List V), tupOnlyAll ds = true → DpAll K H vs ds → DpAll K H' vs ds
  | [], vs, _, h => by cases h; exact .nil
  | d :: ds, vs, t, h => by
    have t' : tupOnly d = true ∧ tupOnlyAll ds = true := by simpa [tupOnlyAll] using t
    cases h with
    | cons h1 h2 => exact .cons (TupK.dp s d _ t'.1 h1) (TupK.dpAll s ds _ t'.2 h2)
end
theorem tupOnlyAll_of {ds : List PyData} (h : ∀ d ∈ ds, tupOnly d = true) : tupOnlyAll ds = true := by
  induction ds with
  | nil => simp [tupOnlyAll]
  | cons d ds ih => simp [tupOnlyAll, h d (by simp), ih (fun e he => h e (by simp [he]))]

/-! data -/
abbrev Gp := List Int × Int
def dI (ns : List Int) : PyData := .tuple (ns.map .int)
def dGrp (g : Gp) : PyData := .tuple [dI g.1, .int g.2]
def dInst (cs : List Int) (gs : List Gp) : PyData := .tuple [dI cs, .tuple (gs.map dGrp)]
def dAsg (rows : List (List Int)) : PyData := .tuple (rows.map dI)
theorem to_ints (ns : List Int) : tupOnlyAll (ns.map PyData.int) = true := tupOnlyAll_of (by intro d hd; obtain ⟨n, _, rfl⟩ := List.mem_map.mp hd; simp [tupOnly])
theorem to_dI (ns : List Int) : tupOnly (dI ns) = true := by simp [dI, tupOnly, to_ints]
theorem to_dGrp (g : Gp) : tupOnly (dGrp g) = true := by simp [dGrp, tupOnly, tupOnlyAll, to_dI]
theorem to_grps (gs : List Gp) : tupOnlyAll (gs.map dGrp) = true := tupOnlyAll_of (by intro d hd; obtain ⟨n, _, rfl⟩ := List.mem_map.mp hd; exact to_dGrp n)
theorem to_rows (rs : List (List Int)) : tupOnlyAll (rs.map dI) = true := tupOnlyAll_of (by intro d hd; obtain ⟨n, _, rfl⟩ := List.mem_map.mp hd; exact to_dI n)
theorem to_dInst (cs : List Int) (gs : List Gp) : tupOnly (dInst cs gs) = true := by simp [dInst, tupOnly, tupOnlyAll, to_dI, to_grps]
theorem to_dAsg (rs : List (List Int)) : tupOnly (dAsg rs) = true := by simp [dAsg, tupOnly, to_rows]

section
variable {K : PySem.W.Frag} {H : Hp}
theorem DpAll.len : ∀ {vs : List V} {ds : List PyData}, DpAll K H vs ds → vs.length = ds.length
  | _, _, .nil => rfl
  | _, _, .cons _ t => by simp [DpAll.len t]
theorem DpAll.ints : ∀ {ns : List Int} {vs : List V}, DpAll K H vs (ns.map PyData.int) → vs = ns.map V.int
  | [], _, h => by cases h; rfl
  | n :: ns, _, h => by
    cases h with
    | cons h1 h2 => cases h1; rw [DpAll.ints h2]; rfl
theorem dp_ints : ∀ (ns : List Int), DpAll K H (ns.map V.int) (ns.map PyData.int)
  | [] => .nil
  | n :: ns => .cons (.int n) (dp_ints ns)
theorem DpAll.at : ∀ {vs : List V} {ds : List PyData} {i : Nat} {v : V}, DpAll K H vs ds → vs[i]? = some v → ∃ d, ds[i]? = some d ∧ Dp K H v d
  | _, _, _, _, .nil, e => by simp at e
  | _, _, 0, _, .cons h _, e => by simp at e; subst e; exact ⟨_, rfl, h⟩
  | _, _, i + 1, v, .cons _ t, e => by
    obtain ⟨d, h1, h2⟩ := DpAll.at (i := i) t (by simpa using e)
    exact ⟨d, by simpa using h1, h2⟩
theorem DpAll.snoc : ∀ {vs : List V} {ds : List PyData} {v : V} {d : PyData}, DpAll K H vs ds → Dp K H v d → DpAll K H (vs ++ [v]) (ds ++ [d])
  | _, _, _, _, .nil, h => .cons h .nil
  | _, _, _, _, .cons h t, h' => .cons h (DpAll.snoc t h')
theorem sq_dI {a : Addr} {ns : List Int} (h : Dp K H (.ref a) (dI ns)) : SqT K H a (ns.map V.int) := by
  cases h with
  | tup hs ha => rw [DpAll.ints ha] at hs; exact hs
theorem dI_sq {a : Addr} {ns : List Int} (h : SqT K H a (ns.map V.int)) : Dp K H (.ref a) (dI ns) := .tup h (dp_ints ns)
theorem dI_ref {v : V} {ns : List Int} (h : Dp K H v (dI ns)) : ∃ a, v = .ref a ∧ SqT K H a (ns.map V.int) := by
  cases h with
  | tup hs ha => rw [DpAll.ints ha] at hs; exact ⟨_, rfl, hs⟩
theorem grp_ref {v : V} {g : Gp} (h : Dp K H v (dGrp g)) : ∃ a p, v = .ref a ∧ SqT K H a [.ref p, .int g.2] ∧ SqT K H p (g.1.map V.int) := by
  cases h with
  | tup hs ha =>
    cases ha with
    | cons h1 h2 =>
      cases h2 with
      | cons h3 h4 =>
        cases h4
        cases h3
        obtain ⟨p, rfl, hp⟩ := dI_ref h1
        exact ⟨_, p, rfl, hs, hp⟩
theorem inst_open {v : V} {cs : List Int} {gs : List Gp} (h : Dp K H v (dInst cs gs)) :
    ∃ a c g xs, v = .ref a ∧ SqT K H a [.ref c, .ref g] ∧ SqT K H c (cs.map V.int) ∧ SqT K H g xs ∧ DpAll K H xs (gs.map dGrp) := by
  cases h with
  | tup hs ha =>
    cases ha with
    | cons h1 h2 =>
      cases h2 with
      | cons h3 h4 =>
        cases h4
        obtain ⟨c, rfl, hc⟩ := dI_ref h1
        cases h3 with
        | tup hg hx => exact ⟨_, c, _, _, rfl, hs, hc, hg, hx⟩
theorem asg_open {v : V} {rs : List (List Int)} (h : Dp K H v (dAsg rs)) : ∃ a xs, v = .ref a ∧ SqT K H a xs ∧ DpAll K H xs (rs.map dI) := by
  cases h with
  | tup hg hx => exact ⟨_, _, rfl, hg, hx⟩
end

/-! what repr wants of data -/
structure Fine (k B : Nat) (d : PyData) : Prop where
  sh : d.showable = true
  nd : d.hasDict = false
  dp : d.depth ≤ k
  ln : d.shown.length ≤ B
theorem Fine.mono {k k' B B' : Nat} {d : PyData} (h : Fine k B d) (hk : k ≤ k') (hB : B ≤ B') : Fine k' B' d := ⟨h.sh, h.nd, Nat.le_trans h.dp hk, Nat.le_trans h.ln hB⟩
theorem fine_int {i : Int} (h : i.natAbs < 10 ^ 20) : Fine 0 25 (.int i) := by
  refine ⟨?_, by simp [PyData.hasDict], by simp [PyData.depth], ?_⟩
  · simp only [PyData.showable, decide_eq_true_eq]
    have : i.natAbs.log2 < 100 := by
      by_cases h0 : i.natAbs = 0
      · rw [h0]; decide
      · exact (Nat.log2_lt h0).mpr (Nat.lt_trans h (by decide))
    omega
  · have e := int_text_length_le10 (k := 20) (by decide) h
    show (Str.ofString (toString i)).length ≤ 25
    rw [PySem.ofString_length]
    omega
theorem fine_all {k B : Nat} : ∀ {xs : List PyData}, (∀ x ∈ xs, Fine k B x) → PyData.showableAll xs = true ∧ PyData.hasDictAll xs = false ∧ PyData.depthAll xs ≤ k ∧ ((PyData.shownAll xs).map (·.length)).sum ≤ xs.length * B ∧ (PyData.shownAll xs).length = xs.length
  | [], _ => by simp [PyData.showableAll, PyData.hasDictAll, PyData.depthAll, PyData.shownAll]
  | x :: xs, h => by
    obtain ⟨h1, h2, h3, h4, h5⟩ := fine_all (xs := xs) (fun y hy => h y (by simp [hy]))
    have hx := h x (by simp)
    refine ⟨by simp [PyData.showableAll, hx.sh, h1], by simp [PyData.hasDictAll, hx.nd, h2], ?_, ?_, ?_⟩
    · simp only [PyData.depthAll]; have := hx.dp; omega
    · simp only [PyData.shownAll, List.map_cons, List.sum_cons, List.length_cons]; have := hx.ln; rw [Nat.succ_mul]; omega
    · simp [PyData.shownAll, h5]
theorem fine_tup {k B n : Nat} {xs : List PyData} (h : ∀ x ∈ xs, Fine k B x) (hn : xs.length ≤ n) : Fine (k + 1) (n * (B + 2) + 3) (.tuple xs) := by
  obtain ⟨h1, h2, h3, h4, h5⟩ := fine_all h
  refine ⟨by simp only [PyData.showable]; exact h1, by simp only [PyData.hasDict]; exact h2, by simp only [PyData.depth]; omega, ?_⟩
  simp only [PyData.shown]
  have e := tupleText_len_le (PyData.shownAll xs)
  rw [h5] at e
  have m : xs.length * (B + 2) ≤ n * (B + 2) := Nat.mul_le_mul_right _ hn
  rw [Nat.mul_add] at m
  omega
theorem fine_lst {k B n : Nat} {xs : List PyData} (h : ∀ x ∈ xs, Fine k B x) (hn : xs.length ≤ n) : Fine (k + 1) (n * (B + 2) + 3) (.list xs) := by
  obtain ⟨h1, h2, h3, h4, h5⟩ := fine_all h
  refine ⟨by simp only [PyData.showable]; exact h1, by simp only [PyData.hasDict]; exact h2, by simp only [PyData.depth]; omega, ?_⟩
  simp only [PyData.shown]
  have e := listText_len_le (PyData.shownAll xs)
  rw [h5] at e
  have m : xs.length * (B + 2) ≤ n * (B + 2) := Nat.mul_le_mul_right _ hn
  rw [Nat.mul_add] at m
  omega
theorem fine_dI {ns : List Int} {n : Nat} (h : ∀ i ∈ ns, i.natAbs < 10 ^ 20) (hn : ns.length ≤ n) : Fine 1 (n * 27 + 3) (dI ns) := by
  refine fine_tup (B := 25) ?_ (by simpa using hn)
  intro d hd
  obtain ⟨i, hi, rfl⟩ := List.mem_map.mp hd
  exact fine_int (h i hi)

/-! the drawing state of the law: a list of the cells, the rests and the turn -/
structure DS (H : Hp) (st c r : Addr) (t : Nat) : Prop where
  hs : H st = some (.lst [.ref c, .ref r, .int t])
  ex : ∃ cells rests : List Int, H c = some (.lst (cells.map V.int)) ∧ H r = some (.lst (rests.map V.int)) ∧ cells.length = rests.length ∧
    0 < cells.length ∧ cells.length ≤ 100 ∧ ∀ x ∈ rests, 0 ≤ x
  n1 : c ≠ r
  n2 : st ≠ c
  n3 : st ≠ r
def Ext (st r : Addr) (H H' : Hp) : Prop := ∀ b o, H b = some o → b ≠ st → b ≠ r → H' b = some o
section
variable {H H1 H2 : Hp} {st c r p : Addr} {t : Nat} {o : HO}
theorem Ext.trans (a : Ext st r H H1) (b : Ext st r H1 H2) : Ext st r H H2 := fun x o h n1 n2 => b x o (a x o h n1 n2) n1 n2
theorem Ext.of (s : Same H H1) : Ext st r H H1 := fun b o h _ _ => s b o h
theorem Ext.tup (d : DS H st c r t) (e : Ext st r H H1) : TupK H H1 := by
  obtain ⟨cells, rests, hc, hr, _⟩ := d.ex
  rintro b xs (h | ⟨u, h⟩)
  · exact .inl (e _ _ h (ne_of h d.hs (by intro z; cases z)) (ne_of h hr (by intro z; cases z)))
  · exact .inr ⟨u, e _ _ h (ne_of h d.hs (by intro z; cases z)) (ne_of h hr (by intro z; cases z))⟩
theorem DS.same (d : DS H st c r t) (s : Same H H1) : DS H1 st c r t := by
  obtain ⟨cells, rests, hc, hr, q⟩ := d.ex
  exact ⟨s _ _ d.hs, ⟨cells, rests, s _ _ hc, s _ _ hr, q⟩, d.n1, d.n2, d.n3⟩
theorem DS.new (d : DS H st c r t) (np : H p = none) : DS (upd H p o) st c r t := d.same (sameNew np)
theorem DS.put (d : DS H st c r t) (h1 : p ≠ st) (h2 : p ≠ c) (h3 : p ≠ r) : DS (upd H p o) st c r t := by
  obtain ⟨cells, rests, hc, hr, q⟩ := d.ex
  exact ⟨by rw [upd_ne h1.symm]; exact d.hs, ⟨cells, rests, by rw [upd_ne h2.symm]; exact hc, by rw [upd_ne h3.symm]; exact hr, q⟩, d.n1, d.n2, d.n3⟩
/-- an address that was free while the state stood is none of its own -/
theorem DS.off (d : DS H st c r t) (np : H p = none) : p ≠ st ∧ p ≠ c ∧ p ≠ r := by
  obtain ⟨cells, rests, hc, hr, q⟩ := d.ex
  exact ⟨(ne_of_none d.hs np).symm, (ne_of_none hc np).symm, (ne_of_none hr np).symm⟩
end
end Pv

namespace Pv
open PySem PySem.Spec PyProof.Rows L2
/-! enumerate of a tuple -/
theorem enumT_new (l : Addr) (items : Array Value) (n : Nat) (dct : Option Addr) (sl : Array (Option Value)) :
    Meets (Builtin.«enumerate.__new__» ⟨[.type "enumerate", .ref l], []⟩) (fun _ R s =>
      s.heap.get? l = some { cls := .type "tuple", dict := dct, data := .seq items n, slots := sl } ∧
      R (.ok (.ret (.ref (s.heap.push { cls := .type "tuple_iterator", data := .fields #[.ref l, .int 0 0] }).objs.size)))
        { s with heap := Heap.push (s.heap.push { cls := .type "tuple_iterator", data := .fields #[.ref l, .int 0 0] }) { cls := .type "enumerate", data := .fields #[.none, .bool false, .ref s.heap.objs.size, rawInt 0, .none, .none] } }) :=
  .of_wp fun prog w A R s h => by
    obtain ⟨hp, g, d, tk, os⟩ := s
    obtain ⟨hl, h⟩ := h
    have hsub := sub_enumerate
    have hL : Heap.IsTuple (Shared.heap ⟨hp, g, d, tk, os⟩) l items := ⟨_, hl, rfl, n, rfl⟩
    wp_walk using AutoSeq1.wpAny_loadPart' hl
    refine wpAny_stack_any fun st => wpAny_pure ?_
    split
    · rename_i c _ _ _ _ _
      cases (c == Value.type "enumerate") <;>
        (wp_walk using AutoSeq1.wpAny_loadPart' hl, wpAny_pyIter_tuple hL; exact ⟨_, rfl, h⟩)
    · wp_walk using AutoSeq1.wpAny_loadPart' hl, wpAny_pyIter_tuple hL
      exact ⟨_, rfl, h⟩
theorem call_enumT {prog : Program} {w : World} {A : Around} {E : Value → Shared → Prop} {s : Shared} {l : Addr} {items : Array Value} {Q : Value → Shared → Prop} (hL : s.heap.IsTuple l items)
    (h : ∀ h', IsEnum h' (s.heap.objs.size + 1) s.heap.objs.size 0 .none → h'.IsTupleIter s.heap.objs.size l 0 →
      (∀ b o, s.heap.get? b = some o → h'.get? b = some o) → Q (.ref (s.heap.objs.size + 1)) { s with heap := h' }) :
    wpAny (model prog w) A (call (.type "enumerate") [.ref l]) Q E s := by
  obtain ⟨⟨c, dct, dt, sl⟩, hl, hc, n, hd⟩ := hL
  simp only at hc hd
  subst hc hd
  refine callType_new F.called_enumerate (by decide) (F.typeCall_enumerate_1 _) (F.newCall_enumerate_1 _) (fun obj => F.args_object_init_2 obj _) F.entry_enumerate_new (enumT_new l items n dct sl) ⟨hl, ?_⟩
  have hz : (s.heap.push { cls := .type "tuple_iterator", data := .fields #[.ref l, .int 0 0] }).objs.size = s.heap.objs.size + 1 := Heap.size_push ..
  show _ ∧ _
  rw [hz]
  have ge : IsEnum (Heap.push (s.heap.push { cls := .type "tuple_iterator", data := .fields #[.ref l, .int 0 0] }) { cls := .type "enumerate", data := .fields #[.none, .bool false, .ref s.heap.objs.size, rawInt 0, .none, .none] }) (s.heap.objs.size + 1) s.heap.objs.size 0 .none := by
    rw [← hz]
    exact Heap.get?_push_size _ rfl
  exact ⟨⟨_, ge, rfl⟩, h _ ge ⟨_, Heap.get?_push_of_some _ (Heap.get?_push_size _ rfl), rfl, rfl⟩ fun b o x => Heap.get?_push_of_some _ (Heap.get?_push_of_some _ x)⟩
def IteT (K : PySem.W.Frag) (a : Addr) : It :=
  ⟨fun i H => ∃ (xs : List V) (x : V), SqT K H a xs ∧ xs[i]? = some x,
   fun i H v H' => ∃ T x, v = .ref T ∧ H T = none ∧ H' = upd H T (.tup [.int (i : Nat), x]) ∧ ∀ xs, SqT K H a xs → xs[i]? = some x,
   fun i H => ∃ xs : List V, SqT K H a xs ∧ xs.length = i⟩
theorem tupLt {h : Heap} {a : Addr} {its : Array Value} (p : IsTup h a its) : a < h.objs.size := by obtain ⟨_, e, _⟩ := p; exact Heap.lt_size e
theorem turn_enumT {P : Program} {w : World} {K : PySem.W.Frag} {elts : List Expr} {kk : Nat} {tpos : Pos} (a e it : Addr) :
    Turn P w K (.Tuple elts kk tpos) (IteT K a) [e, it] e (fun i h => (∃ old, IsEnum h e it ((i : Nat) : Int) old) ∧ h.IsTupleIter it a i ∧ e ≠ it) where
  mem := by simp
  obj := by
    rintro i h ⟨⟨old, he⟩, ⟨o, ho, hc, hd⟩, _⟩ b hb
    simp only [List.mem_cons, List.not_mem_nil, or_false] at hb
    rcases hb with rfl | rfl
    · exact ⟨_, he, fun v q => nomatch q⟩
    · exact ⟨o, ho, fun v q => by rw [hd] at q; cases q⟩
  keep := by
    rintro i h h' ⟨⟨old, he⟩, hi, hne⟩ k
    exact ⟨⟨old, k e (by simp) _ he⟩, hi.at fun o q => k it (by simp) o q, hne⟩
  item := by
    intro X hP hw hK hc i pins s σ H E I hf st hg
    subst hP hw hK
    obtain ⟨⟨old, he⟩, hit, hne⟩ := st
    obtain ⟨xs, x, hq, hx⟩ := hg
    obtain ⟨its, rv, p, hz⟩ := I.tuple hq
    obtain ⟨u, hu, ru⟩ := rv.get hx
    have hel : e < s.heap.objs.size := Heap.lt_size he
    have hil : it < s.heap.objs.size := by obtain ⟨_, q, _⟩ := hit; exact Heap.lt_size q
    have nea : e ≠ a := by
      rintro rfl
      obtain ⟨o, ho, hcl, _⟩ := p
      rw [he] at ho
      cases ho
      injection hcl with hcl
      exact absurd hcl (by decide)
    have nia : a ≠ it := by
      rintro rfl
      obtain ⟨o, ho, hcl, _⟩ := p
      obtain ⟨o2, ho2, hcl2, _⟩ := hit
      rw [ho] at ho2
      cases ho2
      rw [hcl] at hcl2
      injection hcl2 with hcl2
      exact absurd hcl2 (by decide)
    have hlt : i < its.toArray.size := by have := (List.getElem?_eq_some_iff.mp hu).1; simpa using this
    refine wpAny_pyNext_enum_itemD (Draws.tuple (A := X.A.in1) (I.ok.hd hc) it a nia its.toArray) he ⟨hit, p⟩ hlt hne (by simp [hne, nea]) ?_
    intro u' h' tk hu' ho st' hT hsz hk
    have hu2 : its.toArray[i]? = some u' := hu'
    have : u' = u := by
      have h3 : its.toArray[i]? = some u := by simpa using hu
      rw [h3] at hu2
      exact (Option.some.inj hu2).symm
    subst this
    refine ⟨_, rfl, wpAny_letOwnedTupleGo_enum (s := { s with heap := h', toks := tk + 1 }) ho fun h'' he' sb => ?_⟩
    have hT2 : h''.get? s.heap.objs.size = some { cls := .type "tuple", data := .seq #[.int i tk, u'] } := (sb.2 _ (Nat.ne_of_gt hel)).trans hT
    have new : ObjOk X.prog X.w (upd H s.heap.objs.size (.tup [.int (i : Nat), x])) h'' s.heap.objs.size (.tup [.int (i : Nat), x]) :=
      ⟨by show 2 ≤ sizeLine; decide, [.int i tk, u'], .cons ⟨_, rfl⟩ (.cons ru .nil), ⟨_, hT2, rfl, _, rfl⟩⟩
    have kk : ∀ b ob, b ∉ [e, it] → s.heap.get? b = some ob → h''.get? b = some ob := by
      intro b ob hb q
      have h1 : b ≠ e := fun z => hb (by simp [z])
      have h2 : b ≠ it := fun z => hb (by simp [z])
      exact (sb.2 b h1).trans (hk b ob h1 h2 q)
    have I1 : Inv X pins σ (upd H s.heap.objs.size (.tup [.int (i : Nat), x])) { s with heap := h'', toks := tk + 1 } :=
      I.turnedNew (ch := [e, it]) kk hf (Nat.le_refl _) new
    refine ⟨.ref s.heap.objs.size, _, I1, rfl, ⟨_, x, rfl, I.hok.fresh (Nat.le_refl _), rfl, fun ys hy => by rw [I.tuple_inj hy hq]; exact hx⟩, ⟨⟨u', ?_⟩, st'.1.at fun o q => (sb.2 it (Ne.symm hne)).trans q, hne⟩, fun b hb => ?_⟩
    · rw [show ((i + 1 : Nat) : Int) = (i : Int) + 1 by omega]; exact he'
    · have hb' : b < s.heap.objs.size := by
        simp only [List.mem_cons, List.not_mem_nil, or_false] at hb
        rcases hb with rfl | rfl <;> assumption
      rw [upd_ne (Nat.ne_of_lt hb')]
      exact (hf b hb).1
  done := by
    intro X hP hw hK hc i pins s σ H E I hf st hg
    subst hP hw hK
    obtain ⟨⟨old, he⟩, hit, hne⟩ := st
    obtain ⟨xs, hq, hx⟩ := hg
    obtain ⟨its, rv, p, hz⟩ := I.tuple hq
    obtain ⟨f0, f1, f2, f3, f4, f5⟩ := hf it (by simp)
    have hl := rv.length
    have nia : a ≠ it := by
      rintro rfl
      obtain ⟨o, ho, hcl, _⟩ := p
      obtain ⟨o2, ho2, hcl2, _⟩ := hit
      rw [ho] at ho2
      cases ho2
      rw [hcl] at hcl2
      injection hcl2 with hcl2
      exact absurd hcl2 (by decide)
    have hi : i = its.toArray.size := by rw [List.size_toArray]; omega
    refine wpAny_pyNext_enum_endD (Draws.tuple (A := X.A.in1) (I.ok.hd hc) it a nia its.toArray) he (by rw [← hi]; exact ⟨hit, p⟩) fun h' eb => ⟨rfl, I.turned (t' := s.toks) (fun b o hb q => eb b o hb q) f0 f1 f3 f4 f5⟩
  self := by
    rintro A i s Q E ⟨⟨_, he⟩, _⟩ h
    exact wpAny_pyIter_enum he h
def iEnumT (K : PySem.W.Frag) (ta : TA) : TI := fun σ H R => ta σ H fun vs H1 => ∃ a xs, vs = [.ref a] ∧ SqT K H1 a xs ∧ R (IteT K a) H1
theorem pi_enumT {X : Cx} {e : Expr} {ta : TA} {p pos tpos : Pos} {elts : List Expr} {kk : Nat} (hg : Gl X "enumerate") (hm : X.mg "enumerate" = none) (ha : PA X [e] ta)
    (hs : starEach [e] X.env = [(false, eval e X.env)] := by rfl) : PI X (.Tuple elts kk tpos) (.Call (.Name "enumerate" p) [e] [] pos) (iEnumT X.K ta) := by
  constructor
  intro pins s σ H R I h
  refine Call_ (ld_blt I hg hm boot_enumerate (PyProof.Rows.callWith_type1 (thn (ha.run pos pins s σ H _ I h) ?_) hs rfl))
  rintro us s1 ⟨vs, H1, I1, r1, a, xs, rfl, hq, q⟩
  obtain ⟨u, rfl, rfl⟩ := vals1 r1
  obtain ⟨its, rv, p', hz⟩ := I1.tuple hq
  refine call_enumT (show s1.heap.IsTuple a its.toArray from p') fun h' he hit hk => wpAny_pyIter_enum he ?_
  have I2 : Inv X pins σ H1 { s1 with heap := h' } := I1.kept (t' := s1.toks) hk
  refine ⟨s1.heap.objs.size + 1, [s1.heap.objs.size + 1, s1.heap.objs.size], _, _, H1, rfl, I2, turn_enumT a (s1.heap.objs.size + 1) s1.heap.objs.size, ⟨⟨.none, he⟩, hit, Nat.succ_ne_self _⟩, ?_, q⟩
  intro b hb
  have hle : s1.heap.objs.size ≤ b := by
    simp only [List.mem_cons, List.not_mem_nil, or_false] at hb
    rcases hb with rfl | rfl <;> omega
  exact I1.fpOk hle (I1.hok.fresh hle)
theorem walk_enumT {K : PySem.W.Frag} {a : Addr} {xs : List V} : Walk (IteT K a) xs.length (fun H => SqT K H a xs) (YPair (fun i => some (.int (i : Nat))) (fun i => xs[i]?)) := by
  constructor
  · intro i H hi q
    exact ⟨xs, xs[i], q, by simp [hi]⟩
  · intro H q
    exact ⟨xs, q, rfl⟩
  · rintro i H v H' _ q ⟨T, x, h1, h2, h3, h4⟩
    exact ⟨T, _, x, h1, h2, h3, rfl, h4 xs q⟩
/-! zip of a list and a tuple -/
abbrev zm1 (h : Heap) (l1 : Addr) : Heap := h.push { cls := .type "list_iterator", data := .fields #[.ref l1, .int 0 0] }
abbrev zm2 (h : Heap) (l1 l2 : Addr) : Heap := (zm1 h l1).push { cls := .type "tuple_iterator", data := .fields #[.ref l2, .int 0 0] }
abbrev zm3 (h : Heap) (l1 l2 : Addr) : Heap := (zm2 h l1 l2).push { cls := .type "tuple", data := .seq #[.ref h.objs.size, .ref (zm1 h l1).objs.size] }
abbrev zm4 (h : Heap) (l1 l2 : Addr) : Heap := (zm3 h l1 l2).push { cls := .type "tuple", data := .seq #[.none, .none] }
abbrev zm5 (h : Heap) (l1 l2 : Addr) : Heap := (zm4 h l1 l2).push { cls := .type "zip", data := .fields #[.none, .bool false, .bool false, .ref (zm2 h l1 l2).objs.size, .ref (zm3 h l1 l2).objs.size] }
theorem zipM_new (l1 l2 : Addr) (xs ys : Array Value) :
    Meets (Builtin.«zip.__new__» ⟨[.type "zip", .ref l1, .ref l2], []⟩) (fun _ R s => s.heap.IsList l1 xs ∧ s.heap.IsTuple l2 ys ∧
      R (.ok (.ret (.ref (zm4 s.heap l1 l2).objs.size))) { s with heap := zm5 s.heap l1 l2 }) :=
  .of_wp fun prog w A R s h => by
    obtain ⟨hp, g, d, tk, os⟩ := s
    obtain ⟨hl1, hl2, h⟩ := h
    have hsub := sub_zip
    have hL1 : Heap.IsList (Shared.heap ⟨hp, g, d, tk, os⟩) l1 xs := hl1
    have hL2 : Heap.IsTuple (Shared.heap ⟨zm1 hp l1, g, d, tk, os⟩) l2 ys := Heap.IsTuple.push hl2 _
    wp_walk using wpAny_pyIter_list hL1, wpAny_pyIter_tuple hL2
    exact ⟨_, rfl, h⟩
theorem call_zipM {prog : Program} {w : World} {A : Around} {E : Value → Shared → Prop} {s : Shared} {l1 l2 : Addr} {xs ys : Array Value} {Q : Value → Shared → Prop} (hl1 : s.heap.IsList l1 xs) (hl2 : s.heap.IsTuple l2 ys)
    (h : ∀ h', IsZip h' (s.heap.objs.size + 4) (s.heap.objs.size + 2) (s.heap.objs.size + 3) .none → IsPair h' (s.heap.objs.size + 2) (.ref s.heap.objs.size) (.ref (s.heap.objs.size + 1)) →
      IsPair h' (s.heap.objs.size + 3) .none .none → h'.IsListIter s.heap.objs.size l1 0 → h'.IsTupleIter (s.heap.objs.size + 1) l2 0 →
      (∀ c o, s.heap.get? c = some o → h'.get? c = some o) → Q (.ref (s.heap.objs.size + 4)) { s with heap := h' }) :
    wpAny (model prog w) A (call (.type "zip") [.ref l1, .ref l2]) Q E s := by
  refine callType_new F.called_zip (by decide) (F.typeCall_zip_2 _ _) (F.newCall_zip_2 _ _) (fun obj => F.args_object_init_3 obj _ _) F.entry_zip_new (zipM_new l1 l2 xs ys) ⟨hl1, hl2, ?_⟩
  have z1 : (zm1 s.heap l1).objs.size = s.heap.objs.size + 1 := Heap.size_push ..
  have z2 : (zm2 s.heap l1 l2).objs.size = s.heap.objs.size + 2 := by rw [Heap.size_push, z1]
  have z3 : (zm3 s.heap l1 l2).objs.size = s.heap.objs.size + 3 := by rw [Heap.size_push, z2]
  have z4 : (zm4 s.heap l1 l2).objs.size = s.heap.objs.size + 4 := by rw [Heap.size_push, z3]
  have g5 : (zm5 s.heap l1 l2).get? (zm4 s.heap l1 l2).objs.size = some _ := Heap.get?_push_size _ rfl
  have g4 : (zm5 s.heap l1 l2).get? (zm3 s.heap l1 l2).objs.size = some _ := Heap.get?_push_of_some _ (Heap.get?_push_size _ rfl)
  have g3 : (zm5 s.heap l1 l2).get? (zm2 s.heap l1 l2).objs.size = some _ := Heap.get?_push_of_some _ (Heap.get?_push_of_some _ (Heap.get?_push_size _ rfl))
  have g2 : (zm5 s.heap l1 l2).get? (zm1 s.heap l1).objs.size = some _ := Heap.get?_push_of_some _ (Heap.get?_push_of_some _ (Heap.get?_push_of_some _ (Heap.get?_push_size _ rfl)))
  have g1 : (zm5 s.heap l1 l2).get? s.heap.objs.size = some _ := Heap.get?_push_of_some _ (Heap.get?_push_of_some _ (Heap.get?_push_of_some _ (Heap.get?_push_of_some _ (Heap.get?_push_size _ rfl))))
  show _ ∧ _
  rw [z2, z3, z4] at g5
  rw [z1, z2] at g3
  rw [z3] at g4
  rw [z1] at g2
  rw [z4]
  refine ⟨⟨_, g5, rfl⟩, h _ g5 g3 g4 ⟨_, g1, rfl, rfl⟩ ⟨_, g2, rfl, rfl⟩ ?_⟩
  intro c o x
  exact Heap.get?_push_of_some _ (Heap.get?_push_of_some _ (Heap.get?_push_of_some _ (Heap.get?_push_of_some _ (Heap.get?_push_of_some _ x))))
def ItzM (K : PySem.W.Frag) (a b : Addr) : It :=
  ⟨fun i H => ∃ (xs ys : List V) (x y : V), SqL K H a xs ∧ SqT K H b ys ∧ xs[i]? = some x ∧ ys[i]? = some y,
   fun i H v H' => ∃ T x y, v = .ref T ∧ H T = none ∧ H' = upd H T (.tup [x, y]) ∧ (∀ xs, SqL K H a xs → xs[i]? = some x) ∧ ∀ ys, SqT K H b ys → ys[i]? = some y,
   fun i H => ∃ xs ys : List V, SqL K H a xs ∧ SqT K H b ys ∧ min xs.length ys.length = i⟩
theorem sepM {z TI TO i1 i2 a b : Addr} (D : ZipApart z TI TO i1 i2 a b) : ZipSep2 z TI TO i1 i2 [i1, a] [i2, b] := by
  refine ⟨D.TIz, D.TOz, D.TITO, D.TIi1, by simp, ?_, ?_, D.TIi2, by simp, ?_, ?_, ?_, ?_⟩ <;>
    simp only [List.mem_cons, List.not_mem_nil, or_false, not_or]
  · exact ⟨D.i1z.symm, D.l1z.symm⟩
  · exact ⟨D.TOi1, D.l1TO.symm⟩
  · exact ⟨D.i2z.symm, D.l2z.symm⟩
  · exact ⟨D.TOi2, D.l2TO.symm⟩
  · exact ⟨D.i12, D.l2i1.symm⟩
  · exact ⟨D.i12.symm, D.l1i2.symm⟩
theorem turn_zipM {P : Program} {w : World} {K : PySem.W.Frag} {elts : List Expr} {kk : Nat} {tpos : Pos} {a b z TI TO i1 i2 : Addr} (D : ZipApart z TI TO i1 i2 a b) :
    Turn P w K (.Tuple elts kk tpos) (ItzM K a b) [z, TI, TO, i1, i2] z
      (fun i h => IsZip h z TI TO .none ∧ IsPair h TI (.ref i1) (.ref i2) ∧ (∃ x y, IsPair h TO x y) ∧ h.IsListIter i1 a i ∧ h.IsTupleIter i2 b i) where
  mem := by simp
  obj := by
    rintro i h ⟨hz, hTI, ⟨x, y, hTO⟩, ⟨o1, e1, _, d1⟩, ⟨o2, e2, _, d2⟩⟩ c hc
    simp only [List.mem_cons, List.not_mem_nil, or_false] at hc
    rcases hc with rfl | rfl | rfl | rfl | rfl
    · exact ⟨_, hz, fun v q => nomatch q⟩
    · exact ⟨_, hTI, fun v q => nomatch q⟩
    · exact ⟨_, hTO, fun v q => nomatch q⟩
    · exact ⟨o1, e1, fun v q => by rw [d1] at q; cases q⟩
    · exact ⟨o2, e2, fun v q => by rw [d2] at q; cases q⟩
  keep := by
    rintro i h h' ⟨hz, hTI, ⟨x, y, hTO⟩, h1, h2⟩ k
    exact ⟨k z (by simp) _ hz, k TI (by simp) _ hTI, ⟨x, y, k TO (by simp) _ hTO⟩, h1.at fun o q => k i1 (by simp) o q, h2.at fun o q => k i2 (by simp) o q⟩
  item := by
    intro X hP hw hK hc i pins s σ H E I hf st hg
    subst hP hw hK
    obtain ⟨hz, hTI, ⟨x0, y0, hTO⟩, h1, h2⟩ := st
    obtain ⟨xs, ys, x, y, hqx, hqy, hx, hy⟩ := hg
    obtain ⟨its, rv, p, _⟩ := I.list hqx
    obtain ⟨its2, rv2, p2, _⟩ := I.tuple hqy
    obtain ⟨u, hu, ru⟩ := rv.get hx
    obtain ⟨u2, hu2, ru2⟩ := rv2.get hy
    have hzl : z < s.heap.objs.size := Heap.lt_size hz
    have hl1 : i < its.toArray.size := by have := (List.getElem?_eq_some_iff.mp hu).1; simpa using this
    have hl2 : i < its2.toArray.size := by have := (List.getElem?_eq_some_iff.mp hu2).1; simpa using this
    refine wpAny_pyNext_zipD2_item (sepM D) (Draws.list (A := X.A.in1) (I.ok.hd hc) i1 a D.l1i1 its.toArray) (Draws.tuple (A := X.A.in1) (I.ok.hd hc) i2 b D.l2i2 its2.toArray) hz hTI hTO ⟨h1, p.isList⟩ ⟨h2, p2⟩ hl1 hl2 ?_
    intro v1 v2 h' tk hv1 hv2 z' TO' st1 st2 hT hsz hk
    have e1 : v1 = u := by
      have h3 : its.toArray[i]? = some u := by simpa using hu
      rw [show its.toArray[i]? = some v1 from hv1] at h3
      exact Option.some.inj h3
    have e2 : v2 = u2 := by
      have h3 : its2.toArray[i]? = some u2 := by simpa using hu2
      rw [show its2.toArray[i]? = some v2 from hv2] at h3
      exact Option.some.inj h3
    subst e1 e2
    refine ⟨_, rfl, wpAny_letOwnedTupleGo_zip (s := { s with heap := h', toks := tk }) z' fun h'' z'' sb => ?_⟩
    have hT2 : h''.get? s.heap.objs.size = some { cls := .type "tuple", data := .seq #[v1, v2] } := (sb.2 _ (Nat.ne_of_gt hzl)).trans hT
    have new : ObjOk X.prog X.w (upd H s.heap.objs.size (.tup [x, y])) h'' s.heap.objs.size (.tup [x, y]) :=
      ⟨by show 2 ≤ sizeLine; decide, [v1, v2], .cons ru (.cons ru2 .nil), ⟨_, hT2, rfl, _, rfl⟩⟩
    have kk : ∀ c o, c ∉ [z, TI, TO, i1, i2] → s.heap.get? c = some o → h''.get? c = some o := by
      intro c o hb q
      simp only [List.mem_cons, List.not_mem_nil, or_false, not_or] at hb
      exact (sb.2 c hb.1).trans (hk c o hb.1 hb.2.2.1 hb.2.2.2.1 hb.2.2.2.2 q)
    have I1 : Inv X pins σ (upd H s.heap.objs.size (.tup [x, y])) { s with heap := h'', toks := tk } :=
      I.turnedNew (t' := tk) (ch := [z, TI, TO, i1, i2]) kk hf (Nat.le_refl _) new
    refine ⟨.ref s.heap.objs.size, _, I1, rfl, ⟨_, x, y, rfl, I.hok.fresh (Nat.le_refl _), rfl, fun l hl => by rw [I.list_inj hl hqx]; exact hx, fun l hl => by rw [I.tuple_inj hl hqy]; exact hy⟩, ⟨z'', ?_, ⟨v1, v2, ?_⟩, ?_, ?_⟩, ?_⟩
    · exact (sb.2 _ D.TIz).trans (hk _ _ D.TIz D.TITO D.TIi1 D.TIi2 hTI)
    · exact (sb.2 _ D.TOz).trans TO'
    · exact st1.1.at fun o q => (sb.2 _ D.i1z).trans q
    · exact st2.1.at fun o q => (sb.2 _ D.i2z).trans q
    · intro c hcm
      have hlt : c < s.heap.objs.size := by
        simp only [List.mem_cons, List.not_mem_nil, or_false] at hcm
        rcases hcm with rfl | rfl | rfl | rfl | rfl
        · exact hzl
        · exact Heap.lt_size hTI
        · exact Heap.lt_size hTO
        · obtain ⟨_, e1, _⟩ := h1; exact Heap.lt_size e1
        · obtain ⟨_, e2, _⟩ := h2; exact Heap.lt_size e2
      rw [upd_ne (Nat.ne_of_lt hlt)]
      exact (hf c hcm).1
  done := by
    intro X hP hw hK hc i pins s σ H E I hf st hg
    subst hP hw hK
    obtain ⟨hz, hTI, ⟨x0, y0, hTO⟩, h1, h2⟩ := st
    obtain ⟨xs, ys, hqx, hqy, hend⟩ := hg
    obtain ⟨its, rv, p, _⟩ := I.list hqx
    obtain ⟨its2, rv2, p2, _⟩ := I.tuple hqy
    have l1 := rv.length
    have l2 := rv2.length
    refine wpAny_pyNext_zipD2_end (i := i) (sepM D) (Draws.list (A := X.A.in1) (I.ok.hd hc) i1 a D.l1i1 its.toArray) (Draws.tuple (A := X.A.in1) (I.ok.hd hc) i2 b D.l2i2 its2.toArray) hz hTI hTO ⟨h1, p.isList⟩ ⟨h2, p2⟩ (by simp; omega) (by simp; omega) (by simp; omega) ?_
    intro h' tk hk
    refine ⟨rfl, I.turnedL (t' := tk) (ch := [z, TI, TO, i1, i2]) ?_ hf⟩
    intro c o hb q
    simp only [List.mem_cons, List.not_mem_nil, or_false, not_or] at hb
    exact hk c o hb.1 hb.2.2.1 hb.2.2.2.1 hb.2.2.2.2 q
  self := fun A i s Q E st h => wpAny_pyIter_zip st.1 h
def iZipM (K : PySem.W.Frag) (ta : TA) : TI := fun σ H R => ta σ H fun vs H1 => ∃ a b xs ys, vs = [.ref a, .ref b] ∧ SqL K H1 a xs ∧ SqT K H1 b ys ∧ R (ItzM K a b) H1
theorem pi_zipM {X : Cx} {e e2 : Expr} {ta : TA} {p pos tpos : Pos} {elts : List Expr} {kk : Nat} (hg : Gl X "zip") (hm : X.mg "zip" = none) (ha : PA X [e, e2] ta)
    (hs : starEach [e, e2] X.env = (false, eval e X.env) :: starEach [e2] X.env := by rfl) (hpl : (backTo pos (starEach [e2] X.env)).any (·.1) = false := by rfl) :
    PI X (.Tuple elts kk tpos) (.Call (.Name "zip" p) [e, e2] [] pos) (iZipM X.K ta) := by
  constructor
  intro pins s σ H R I h
  refine Call_ (ld_blt I hg hm PyProof.Rows.boot_zip (PyProof.Rows.callWith_type1 (thn (ha.run pos pins s σ H _ I h) ?_) hs hpl))
  rintro us s1 ⟨vs, H1, I1, r1, a, b, xs, ys, rfl, hqx, hqy, q⟩
  obtain ⟨u, v, rfl, rfl, rfl⟩ := vals2 r1
  obtain ⟨its, rv, p1, _⟩ := I1.list hqx
  obtain ⟨its2, rv2, p2, _⟩ := I1.tuple hqy
  refine call_zipM p1.isList (show s1.heap.IsTuple b its2.toArray from p2) fun h' hz hTI hTO h1 h2 hk => wpAny_pyIter_zip hz ?_
  have I2 : Inv X pins σ H1 { s1 with heap := h' } := I1.kept (t' := s1.toks) hk
  refine ⟨s1.heap.objs.size + 4, [s1.heap.objs.size + 4, s1.heap.objs.size + 2, s1.heap.objs.size + 3, s1.heap.objs.size, s1.heap.objs.size + 1], _, _, H1, rfl, I2,
    turn_zipM (PySem.W.ktu_apart s1.heap.objs.size a b p1.lt (tupLt p2)), ⟨hz, hTI, ⟨_, _, hTO⟩, h1, h2⟩, ?_, q⟩
  intro c hcm
  have hle : s1.heap.objs.size ≤ c := by
    simp only [List.mem_cons, List.not_mem_nil, or_false] at hcm
    rcases hcm with rfl | rfl | rfl | rfl | rfl <;> omega
  exact I1.fpOk hle (I1.hok.fresh hle)
theorem walk_zipM {K : PySem.W.Frag} {a b : Addr} {xs ys : List V} {n : Nat} (hn : n = min xs.length ys.length) :
    Walk (ItzM K a b) n (fun H => SqL K H a xs ∧ SqT K H b ys) (YPair (fun i => xs[i]?) (fun i => ys[i]?)) := by
  subst hn
  constructor
  · rintro i H hi ⟨q1, q2⟩
    have h1 : i < xs.length := by omega
    have h2 : i < ys.length := by omega
    exact ⟨xs, ys, xs[i], ys[i], q1, q2, by simp [h1], by simp [h2]⟩
  · rintro H ⟨q1, q2⟩
    exact ⟨xs, ys, q1, q2, rfl⟩
  · rintro i H v H' _ ⟨q1, q2⟩ ⟨T, x, z, h1, h2, h3, h4, h5⟩
    exact ⟨T, x, z, h1, h2, h3, h4 xs q1, h5 ys q2⟩
end Pv

namespace Pv
open PySem PySem.Spec PyProof.Rows L2

/-! data of any kind: lists stand off the drawing state, dicts have leaves alone -/
def kD : Key → PyData
  | .inl i => .int i
  | .inr x => .str x
mutual
inductive Dq (K : PySem.W.Frag) (st r : Addr) (H : Hp) : V → PyData → Prop
  | non : Dq K st r H .non .none
  | bl (b : Bool) : Dq K st r H (.bl b) (.bool b)
  | int (i : Int) : Dq K st r H (.int i) (.int i)
  | str (x : Str) : Dq K st r H (.str x) (.str x)
  | lst {a : Addr} {xs : List V} {ds : List PyData} : H a = some (.lst xs) → a ≠ st → a ≠ r → a ≠ sysModules → DqAll K st r H xs ds → Dq K st r H (.ref a) (.list ds)
  | tup {a : Addr} {xs : List V} {ds : List PyData} : SqT K H a xs → DqAll K st r H xs ds → Dq K st r H (.ref a) (.tuple ds)
  | dct {a : Addr} {kvs : List (Key × Int)} : H a = some (.dK (kvs.map fun p => (p.1, V.int p.2))) → Dq K st r H (.ref a) (.dict (kvs.map fun p => (kD p.1, .int p.2)))
inductive DqAll (K : PySem.W.Frag) (st r : Addr) (H : Hp) : List V → List PyData → Prop
  | nil : DqAll K st r H [] []
  | cons {v : V} {vs : List V} {d : PyData} {ds : List PyData} : Dq K st r H v d → DqAll K st r H vs ds → DqAll K st r H (v :: vs) (d :: ds)
end
theorem keys_reads {P : Program} {w : World} {h : Heap} : ∀ {kvs : List (Key × Int)} {vs : List (Key × Value)} {es : List DictEntry}, KV (kvs.map fun p => (p.1, V.int p.2)) vs → Pairs (mixKind P w) es vs →
    ReadsAll h (es.map (·.key)) ((kvs.map fun p => (kD p.1, PyData.int p.2)).map (·.1)) [] ∧ ReadsAll h (es.map (·.val)) ((kvs.map fun p => (kD p.1, PyData.int p.2)).map (·.2)) []
  | [], _, _, rk, rp => by
    cases rk
    cases rp
    exact ⟨.nil, .nil⟩
  | p :: kvs, _, _, rk, rp => by
    obtain ⟨pk, pi⟩ := p
    rw [List.map_cons] at rk
    cases rk with
    | @cons _ q _ qs hq tq =>
      obtain ⟨qk, qv⟩ := q
      obtain ⟨h1, h2⟩ := hq
      simp only at h1 h2
      subst h1
      cases rp with
      | @cons e _ es _ he hv tp =>
        obtain ⟨r1, r2⟩ := keys_reads (h := h) tq tp
        simp only at he hv
        obtain ⟨t, ht⟩ := h2
        subst ht
        refine ⟨?_, ?_⟩
        · have k1 : Reads h e.key (kD pk) [] := by
            rcases keyIs_shape (show keyIs pk e.key = true from he) with ⟨i, t, e1, e2⟩ | ⟨x, t, e1, e2⟩
            · rw [e1, e2]; exact .int i t
            · rw [e1, e2]; exact .str x t
          exact ReadsAll.cons k1 r1
        · have k2 : Reads h e.val (.int pi) [] := by rw [hv]; exact .int pi t
          exact ReadsAll.cons k2 r2
section
variable {X : Cx} {pins : List (Addr × Obj)} {σ : L2.St} {H : Hp} {s : Shared} {st r : Addr}
mutual
theorem Dq.reads (I : Inv X pins σ H s) : ∀ (d : PyData) (v : V) (u : Value), Dq X.K st r H v d → RelV v u → ∃ as, Reads s.heap u d as ∧ sysModules ∉ as
  | .none, _, _, h, q => by
    cases h; cases q; exact ⟨[], .none, by simp⟩
  | .bool b, _, _, h, q => by
    cases h; cases q; exact ⟨[], .bool b, by simp⟩
  | .int i, _, _, h, q => by
    cases h; obtain ⟨t, e⟩ := q; subst e; exact ⟨[], .int i t, by simp⟩
  | .str x, _, _, h, q => by
    cases h; obtain ⟨t, e⟩ := q; subst e; exact ⟨[], .str x t, by simp⟩
  | .list ds, _, _, h, q => by
    cases h with
    | lst e _ _ n hd =>
      cases q
      obtain ⟨its, rel, ⟨o, m, ho, hc, _, hm⟩, _⟩ := I.list (SqL.of e)
      obtain ⟨as, h1, h2⟩ := DqAll.reads I ds _ its hd rel
      exact ⟨_, .list ho hc hm h1, by simp only [List.mem_cons, not_or]; exact ⟨fun z => n z.symm, h2⟩⟩
  | .tuple ds, _, _, h, q => by
    cases h with
    | tup e hd =>
      cases q
      obtain ⟨its, rel, ⟨o, ho, hc, m, hm⟩, _⟩ := I.tuple e
      obtain ⟨as, h1, h2⟩ := DqAll.reads I ds _ its hd rel
      exact ⟨_, .tuple ho hc hm h1, h2⟩
  | .dict _, _, _, h, q => by
    cases h with
    | dct e =>
      cases q
      obtain ⟨_, nb, vs, rk, o, es, ep, ho, hx, hm, _, rp, _⟩ := dk_of I.hok e
      obtain ⟨h1, h2⟩ := keys_reads (h := s.heap) rk rp
      exact ⟨_, .dict ho hx.1 hm h1 h2, by simp only [List.nil_append, List.append_nil, List.mem_singleton, List.mem_cons, List.not_mem_nil, or_false]; exact fun z => absurd z.symm (by simpa using nb)⟩
theorem DqAll.reads (I : Inv X pins σ H s) : ∀ (ds : List PyData) (vs : List V) (us : List Value), DqAll X.K st r H vs ds → Vals vs us → ∃ as, ReadsAll s.heap us ds as ∧ sysModules ∉ as
  | [], _, _, h, q => by
    cases h; cases q; exact ⟨[], .nil, by simp⟩
  | d :: ds, _, _, h, q => by
    cases h with
    | cons h1 h2 =>
      cases q with
      | cons q1 q2 =>
        obtain ⟨as, e1, n1⟩ := Dq.reads I d _ _ h1 q1
        obtain ⟨bs, e2, n2⟩ := DqAll.reads I ds _ _ h2 q2
        exact ⟨_, .cons e1 e2, by simp only [List.mem_append, not_or]; exact ⟨n1, n2⟩⟩
end
end
/-- repr of such data -/
theorem call_reprQ {X : Cx} (hg : X.A.guards = some []) (hu : X.A.units + 70 < cLine) : CallR X (.builtin "repr")
    (fun xs H Q => ∃ a d st r, xs = [.ref a] ∧ Dq X.K st r H (.ref a) d ∧ d.showable = true ∧ d.depth ≤ 60 ∧ d.shown.length ≤ sizeLine ∧ Q (.str d.shown) H) := by
  intro pins s σ H xs us Q I rv h
  obtain ⟨a, d, st, r, rfl, hd, h1, h3, h4, q⟩ := h
  obtain ⟨u, rfl, rfl⟩ := vals1 rv
  obtain ⟨as, rd, nm⟩ := Dq.reads I d _ _ hd rfl
  exact repr_of_reads' rd h1 (fun _ => nm) hg (by omega) (fun _ _ e => e) (fun h' u tk hk => ⟨.str _, H, I.kept hk, ⟨_, rfl⟩, q⟩) h4

/-! how it lasts -/
section
variable {K : PySem.W.Frag} {st r c : Addr} {H H' : Hp}
structure Lasts (st r : Addr) (H H' : Hp) : Prop where
  tk : TupK H H'
  ls : ∀ a xs, H a = some (.lst xs) → a ≠ st → a ≠ r → H' a = some (.lst xs)
  dk : ∀ a kvs, H a = some (.dK kvs) → H' a = some (.dK kvs)
theorem Lasts.refl : Lasts st r H H := ⟨.refl _, fun _ _ e _ _ => e, fun _ _ e => e⟩
theorem Lasts.of (s : Same H H') : Lasts st r H H' := ⟨.of s, fun a xs e _ _ => s _ _ e, fun a kvs e => s _ _ e⟩
theorem Lasts.ext {t : Nat} (d : DS H st c r t) (x : Ext st r H H') : Lasts st r H H' := by
  refine ⟨x.tup d, fun a xs e n1 n2 => x _ _ e n1 n2, fun a kvs e => ?_⟩
  obtain ⟨cells, rests, hc, hr, _⟩ := d.ex
  exact x _ _ e (ne_of e d.hs (by intro z; cases z)) (ne_of e hr (by intro z; cases z))
theorem Lasts.trans {H2 : Hp} (a : Lasts st r H H') (b : Lasts st r H' H2) : Lasts st r H H2 :=
  ⟨a.tk.trans b.tk, fun p xs e n1 n2 => b.ls _ _ (a.ls _ _ e n1 n2) n1 n2, fun p kvs e => b.dk _ _ (a.dk _ _ e)⟩
theorem Lasts.new {p : Addr} {o : HO} (np : H p = none) : Lasts st r H (upd H p o) := .of (sameNew np)
mutual
theorem Dq.lasts (l : Lasts st r H H') : ∀ {d : PyData} {v : V}, Dq K st r H v d → Dq K st r H' v d
  | .none, _, h => by cases h; exact .non
  | .bool _, _, h => by cases h; exact .bl _
  | .int _, _, h => by cases h; exact .int _
  | .str _, _, h => by cases h; exact .str _
  | .list _, _, h => by
    cases h with
    | lst e n1 n2 n3 hd => exact .lst (l.ls _ _ e n1 n2) n1 n2 n3 (DqAll.lasts l hd)
  | .tuple _, _, h => by
    cases h with
    | tup e hd => exact .tup (l.tk.sq e) (DqAll.lasts l hd)
  | .dict _, _, h => by
    cases h with
    | dct e => exact .dct (l.dk _ _ e)
theorem DqAll.lasts (l : Lasts st r H H') : ∀ {ds : List PyData} {vs : List V}, DqAll K st r H vs ds → DqAll K st r H' vs ds
  | [], _, h => by cases h; exact .nil
  | _ :: _, _, h => by
    cases h with
    | cons h1 h2 => exact .cons (Dq.lasts l h1) (DqAll.lasts l h2)
end
mutual
theorem Dq.of_dp : ∀ {d : PyData} {v : V}, tupOnly d = true → Dp K H v d → Dq K st r H v d
  | .none, _, _, h => by cases h; exact .non
  | .bool _, _, _, h => by cases h; exact .bl _
  | .int _, _, _, h => by cases h; exact .int _
  | .str _, _, _, h => by cases h; exact .str _
  | .list _, _, t, _ => by simp [tupOnly] at t
  | .tuple _, _, t, h => by
    cases h with
    | tup e hd => exact .tup e (DqAll.of_dp (by simpa [tupOnly] using t) hd)
  | .dict _, _, t, _ => by simp [tupOnly] at t
theorem DqAll.of_dp : ∀ {ds : List PyData} {vs : List V}, tupOnlyAll ds = true → DpAll K H vs ds → DqAll K st r H vs ds
  | [], _, _, h => by cases h; exact .nil
  | d :: ds, _, t, h => by
    have t' : tupOnly d = true ∧ tupOnlyAll ds = true := by simpa [tupOnlyAll] using t
    cases h with
    | cons h1 h2 => exact .cons (Dq.of_dp t'.1 h1) (DqAll.of_dp t'.2 h2)
theorem Dq.to_dp : ∀ {d : PyData} {v : V}, tupOnly d = true → Dq K st r H v d → Dp K H v d
  | .none, _, _, h => by cases h; exact .non
  | .bool _, _, _, h => by cases h; exact .bl _
  | .int _, _, _, h => by cases h; exact .int _
  | .str _, _, _, h => by cases h; exact .str _
  | .list _, _, t, _ => by simp [tupOnly] at t
  | .tuple _, _, t, h => by
    cases h with
    | tup e hd => exact .tup e (DqAll.to_dp (by simpa [tupOnly] using t) hd)
  | .dict _, _, t, _ => by simp [tupOnly] at t
theorem DqAll.to_dp : ∀ {ds : List PyData} {vs : List V}, tupOnlyAll ds = true → DqAll K st r H vs ds → DpAll K H vs ds
  | [], _, _, h => by cases h; exact .nil
  | d :: ds, _, t, h => by
    have t' : tupOnly d = true ∧ tupOnlyAll ds = true := by simpa [tupOnlyAll] using t
    cases h with
    | cons h1 h2 => exact .cons (Dq.to_dp t'.1 h1) (DqAll.to_dp t'.2 h2)
end
theorem DqAll.len : ∀ {vs : List V} {ds : List PyData}, DqAll K st r H vs ds → vs.length = ds.length
  | _, _, .nil => rfl
  | _, _, .cons _ t => by simp [DqAll.len t]
theorem DqAll.at : ∀ {vs : List V} {ds : List PyData} {i : Nat} {v : V}, DqAll K st r H vs ds → vs[i]? = some v → ∃ d, ds[i]? = some d ∧ Dq K st r H v d
  | _, _, _, _, .nil, e => by simp at e
  | _, _, 0, _, .cons h _, e => by simp at e; subst e; exact ⟨_, rfl, h⟩
  | _, _, i + 1, v, .cons _ t, e => by
    obtain ⟨d, h1, h2⟩ := DqAll.at (i := i) t (by simpa using e)
    exact ⟨d, by simpa using h1, h2⟩
theorem DqAll.app : ∀ {vs ws : List V} {ds es : List PyData}, DqAll K st r H vs ds → DqAll K st r H ws es → DqAll K st r H (vs ++ ws) (ds ++ es)
  | _, _, _, _, .nil, h => h
  | _, _, _, _, .cons h t, h' => .cons h (DqAll.app t h')
theorem DqAll.snoc {vs : List V} {ds : List PyData} {v : V} {d : PyData} (h : DqAll K st r H vs ds) (h' : Dq K st r H v d) : DqAll K st r H (vs ++ [v]) (ds ++ [d]) := h.app (.cons h' .nil)
theorem DqAll.rev : ∀ {vs : List V} {ds : List PyData}, DqAll K st r H vs ds → DqAll K st r H vs.reverse ds.reverse
  | _, _, .nil => .nil
  | _, _, .cons h t => by rw [List.reverse_cons, List.reverse_cons]; exact (DqAll.rev t).snoc h
theorem DqAll.take : ∀ {vs : List V} {ds : List PyData} (n : Nat), DqAll K st r H vs ds → DqAll K st r H (vs.take n) (ds.take n)
  | _, _, 0, _ => .nil
  | _, _, _ + 1, .nil => .nil
  | _, _, n + 1, .cons h t => .cons h (DqAll.take n t)
theorem DqAll.drop : ∀ {vs : List V} {ds : List PyData} (n : Nat), DqAll K st r H vs ds → DqAll K st r H (vs.drop n) (ds.drop n)
  | _, _, 0, h => h
  | _, _, _ + 1, .nil => .nil
  | _, _, n + 1, .cons _ t => DqAll.drop n t
/-- its type -/
def tyN : PyData → String
  | .none => "NoneType"
  | .bool _ => "bool"
  | .int _ => "int"
  | .str _ => "str"
  | .list _ => "list"
  | .tuple _ => "tuple"
  | .dict _ => "dict"
theorem Dq.ty {d : PyData} {v : V} (h : Dq K st r H v d) : TyX K H v (.type (tyN d)) := by
  cases h with
  | non => exact .base .non
  | bl b => exact .base (.bl b)
  | int i => exact .base (.int i)
  | str x => exact .base (.str x)
  | lst e => exact .base (.lst e)
  | tup e _ =>
    rcases e with (e | ⟨o, e⟩) | ⟨o, its, n, e, hc, _⟩
    · exact .base (.tup e)
    · exact .fTuple e
    · exact .kTuple e hc
  | dct e => exact .base (.dK e)
def isTup : PyData → Bool
  | .tuple _ => true
  | _ => false
def isInt : PyData → Bool
  | .int _ => true
  | .bool _ => true
  | _ => false
def isBool : PyData → Bool
  | .bool _ => true
  | _ => false
theorem kit_tup (d : PyData) : PySem.W.kitOne K (.type (tyN d)) (.type "tuple") = some (isTup d) := by
  have key : ∀ a b : String, ∀ x : Bool, kitB a b = some x → PySem.W.kitOne K (.type a) (.type b) = some x := fun _ _ _ h => kit_ty h
  cases d
  · exact key "NoneType" "tuple" false (by decide +kernel)
  · exact key "bool" "tuple" false (by decide +kernel)
  · exact key "int" "tuple" false (by decide +kernel)
  · exact key "str" "tuple" false (by decide +kernel)
  · exact key "list" "tuple" false (by decide +kernel)
  · exact key "tuple" "tuple" true (by decide +kernel)
  · exact key "dict" "tuple" false (by decide +kernel)
theorem kit_int (d : PyData) : PySem.W.kitOne K (.type (tyN d)) (.type "int") = some (isInt d) := by
  have key : ∀ a b : String, ∀ x : Bool, kitB a b = some x → PySem.W.kitOne K (.type a) (.type b) = some x := fun _ _ _ h => kit_ty h
  cases d
  · exact key "NoneType" "int" false (by decide +kernel)
  · exact key "bool" "int" true (by decide +kernel)
  · exact key "int" "int" true (by decide +kernel)
  · exact key "str" "int" false (by decide +kernel)
  · exact key "list" "int" false (by decide +kernel)
  · exact key "tuple" "int" false (by decide +kernel)
  · exact key "dict" "int" false (by decide +kernel)
theorem kit_bool (d : PyData) : PySem.W.kitOne K (.type (tyN d)) (.type "bool") = some (isBool d) := by
  have key : ∀ a b : String, ∀ x : Bool, kitB a b = some x → PySem.W.kitOne K (.type a) (.type b) = some x := fun _ _ _ h => kit_ty h
  cases d
  · exact key "NoneType" "bool" false (by decide +kernel)
  · exact key "bool" "bool" true (by decide +kernel)
  · exact key "int" "bool" false (by decide +kernel)
  · exact key "str" "bool" false (by decide +kernel)
  · exact key "list" "bool" false (by decide +kernel)
  · exact key "tuple" "bool" false (by decide +kernel)
  · exact key "dict" "bool" false (by decide +kernel)
end
/-! a new list, whose address is none of the machine's own -/
def tLstS (t : TA) : TE := fun σ H Q => t σ H fun xs H1 => xs.length ≤ sizeLine ∧ ∀ p, H1 p = none → p ≠ sysModules → Q (.ref p) (upd H1 p (.lst xs))
section
variable {X : Cx} {es : List Expr} {pos : Pos} {t : TA}
theorem pe_lstS (h : PA X es t) : PE X (.List es pos) (tLstS t) := by
  constructor
  intro pins s σ H Q I hq
  refine wpAny_List_spliced (thn (h.run pos pins s σ H _ I hq) ?_)
  rintro us s1 ⟨xs, H1, I1, rel, z, q⟩
  refine ⟨by rw [← rel.length]; exact z, .ref s1.heap.objs.size, _, ?_, rfl, q _ (I1.hok.fresh (Nat.le_refl _)) (Nat.ne_of_gt I1.big)⟩
  exact I1.laid (t' := s1.toks) (fun b u e => Heap.get?_push_of_some _ e) (Nat.le_refl _) ⟨z, us, 0, rel, Heap.get?_push_size _ rfl⟩
def rListS (K : PySem.W.Frag) : RC := fun xs H Q => ∃ (p : Addr) (ys : List V), xs = [.ref p] ∧ SqT K H p ys ∧ ∀ l, H l = none → l ≠ sysModules → Q (.ref l) (upd H l (.lst ys))
theorem call_listS : CallR X (.type "list") (rListS X.K) := by
  intro pins s σ H xs us Q I rel h
  obtain ⟨p, ys, e, hq, q⟩ := h
  subst e
  obtain ⟨u, e, rx⟩ := vals1 rel
  subst e
  cases rx
  obtain ⟨its, r', ⟨o, ho, hc, n, hd⟩, hz⟩ := I.tuple hq
  have hlen := r'.length
  refine call_list_seq p (.inr rfl) ho hc hd (fun h' c' kp e => ?_) (by simp only [List.size_toArray]; omega)
  exact ⟨.ref s.heap.objs.size, _, I.laid (t' := s.toks) (o := .lst ys) kp (Nat.le_refl _) ⟨hz, its, c', r', e⟩, rfl, q _ (I.hok.fresh (Nat.le_refl _)) (Nat.ne_of_gt I.big)⟩
end
end Pv

/-! t[::-1] of a tuple -/
namespace HT
open PySem PyProof.Rows
section
variable {prog : Program} {w : World} {A : Around} {E : Value → Shared → Prop} {s : Shared}
theorem pv_pickBack (xs : Array Value) : ((List.range xs.size).filterMap fun (k : Nat) => xs[(((xs.size : Int) - 1) + (k : Int) * (-1)).toNat]?) = xs.toList.reverse := by
  apply List.ext_getElem?
  intro i
  have e : ∀ n, n ≤ xs.size → ((List.range n).filterMap fun (k : Nat) => xs[(((xs.size : Int) - 1) + (k : Int) * (-1)).toNat]?) = xs.toList.reverse.take n := by
    intro n
    induction n with
    | zero => intro _; rfl
    | succ n ih =>
      intro hn
      rw [List.range_succ, List.filterMap_append, ih (by omega), List.take_add_one]
      congr 1
      have h1 : (((xs.size : Int) - 1) + (n : Int) * (-1)).toNat = xs.size - 1 - n := by omega
      rw [List.filterMap_cons, List.filterMap_nil, h1, List.getElem?_reverse (by rw [Array.length_toList]; omega), Array.length_toList, Array.getElem?_toList]
      cases xs[xs.size - 1 - n]? <;> rfl
  rw [e xs.size (Nat.le_refl _), List.take_of_length_le (by simp)]
theorem pv_appliedBack {sl : Addr} {n : Nat} {t : Tok} {Q : Int × Int × Nat → Shared → Prop} (hs : s.heap.IsSliceOf sl .none .none (.int (-1) t)) (h : Q ((n : Int) - 1, -1, n) s) :
    wpAny (model prog w) A (Builtin.Slice.sliceApplied (.ref sl) (pure (n : Int))) Q E s := by
  obtain ⟨os, hos, hcs, hds⟩ := id hs
  unfold Builtin.Slice.sliceApplied Builtin.Slice.sliceFields
  refine wpAny_bind (wpAny_bind (wpAny_field hos hds (x := .none) rfl (wpAny_bind (wpAny_field hos hds (x := .none) rfl (wpAny_bind (wpAny_field hos hds (x := .int (-1) t) rfl (wpAny_pure ?_)))))))
  refine wpAny_bind (slicePart_ (IsPart.int (-1) t) ?_)
  show wpAny _ _ (if ((-1 : Int) == 0) = true then _ else _) _ _ s
  rw [if_neg (by decide)]
  refine wpAny_bind (slicePart_ IsPart.none (wpAny_bind (slicePart_ IsPart.none (wpAny_bind (wpAny_pure ?_)))))
  show wpAny _ _ (match Builtin.Slice.sliceAdjust none none (-1) (n : Int) with | (a, b) => pure (a, (-1 : Int), Builtin.Slice.slicePlaces a b (-1))) _ _ s
  have e1 : Builtin.Slice.sliceAdjust none none (-1) (n : Int) = ((n : Int) - 1, -1) := rfl
  rw [e1]
  show wpAny _ _ (pure ((n : Int) - 1, (-1 : Int), Builtin.Slice.slicePlaces ((n : Int) - 1) (-1) (-1))) _ _ s
  have e2 : Builtin.Slice.slicePlaces ((n : Int) - 1) (-1) (-1) = n := by
    unfold Builtin.Slice.slicePlaces
    have h1 : ¬ ((-1 : Int) > 0) := by omega
    simp only [h1, if_false]
    by_cases h2 : (n : Int) - 1 > -1
    · rw [if_pos h2]
      have h3 : -(-1 : Int) = 1 := rfl
      rw [h3, Int.ediv_one]
      omega
    · rw [if_neg h2]; omega
  rw [e2]
  exact wpAny_pure h
theorem pv_getItemBack {p sl : Addr} {items : Array Value} {t : Tok} {Q : Value → Shared → Prop} (ht : IsTup s.heap p items) (hs : s.heap.IsSliceOf sl .none .none (.int (-1) t))
    (h : Q (.ref s.heap.objs.size) { s with heap := s.heap.push { cls := .type "tuple", data := .seq items.toList.reverse.toArray } }) (hsz : items.size ≤ sizeLine) : wpAny (model prog w) A (getItem (.ref p) (.ref sl)) Q E s := by
  have hfit : sizeOk (.seq items.toList.reverse.toArray) := by
    show items.toList.reverse.toArray.size ≤ sizeLine
    rw [List.size_toArray, List.length_reverse]; simpa using hsz
  obtain ⟨os, hos, hcs, hds⟩ := id hs
  have hT : s.TypeIs (.ref sl) "slice" := ⟨os, hos, hcs⟩
  unfold getItem; try with_reducible refine wpAny_holding ?_
  first | refine wpAny_bind (wpAny_pure ?_) | skip
  refine wpAny_bind (wpAny_sequenceKey ht.typeIs (by decide) (wpAny_bind (wpAny_callSpecial?_slot (name := Str.ofString "__getitem__") ht.typeIs PyProof.Rows.slot_tuple_getitem
    (wpAny_call_entry PyProof.Rows.slot_tuple_getitem ht.typeIs entry_tuple_getitem ?_ (args_tuple_getitem _ _)))))
  show wpAny _ _ (Builtin.Tuple.tupleItemsOf (.ref p) >>= _) _ _ s
  refine wpAny_bind (tupleItemsOf_ ht (wpAny_bind (wpAny_typeOf hT ?_)))
  rw [if_pos (by decide)]
  refine wpAny_bind (pv_appliedBack hs ?_)
  show wpAny _ _ (if (((items.size : Int) - 1) == 0 && (-1 : Int) == 1 && items.size == items.size) = true then _ else _) _ _ s
  rw [if_neg (by simp)]
  show wpAny _ _ (Builtin.Tuple.tupleExact ((List.range items.size).filterMap fun (k : Nat) => items[(((items.size : Int) - 1) + (k : Int) * (-1)).toNat]?).toArray >>= _) _ _ s
  rw [pv_pickBack]
  first
    | exact wpAny_bind (m := Builtin.Tuple.tupleExact _) (wpAny_newObj_type (wpAny_pure ⟨_, rfl, wpAny_pure h⟩) hfit)
    | exact wpAny_bind (m := Builtin.Tuple.tupleExact _) (wpAny_newObj_type (wpAny_bind (wpAny_pure (wpAny_pure ⟨_, rfl, wpAny_pure h⟩))) hfit)
    | exact wpAny_bind (wpAny_bind (m := Builtin.Tuple.tupleExact _) (wpAny_newObj_type (wpAny_pure (wpAny_pure ⟨_, rfl, wpAny_pure h⟩)) hfit))
    | exact wpAny_bind (wpAny_bind (m := Builtin.Tuple.tupleExact _) (wpAny_newObj_type (wpAny_pure ⟨_, rfl, wpAny_pure h⟩) hfit))
end
end HT
namespace Pv
open PySem PySem.Spec PyProof.Rows L2
def tRevT (K : PySem.W.Frag) (te : TE) : TE := fun σ H Q => te σ H fun x H1 => ∃ (a : Addr) (xs : List V), x = .ref a ∧ SqT K H1 a xs ∧ ∀ p, H1 p = none → Q (.ref p) (upd H1 p (.tup xs.reverse))
section
variable {X : Cx}
theorem pe_revT {e : Expr} {te : TE} {k : Nat} {p1 p2 p3 pos : Pos} (he : PE X e te) : PE X (.Subscript e (.Slice none none (some (.UnaryOp .USub (.Constant (.int 1) k p1) p2)) p3) pos) (tRevT X.K te) := by
  constructor
  intro pins s σ H Q I h
  refine Subscript_ (thn (he.run pins s σ H _ I h) ?_)
  rintro v s1 ⟨x, H1, I1, r1, a, xs, rfl, hx, q⟩
  cases r1
  have hst : PO X (some (.UnaryOp .USub (.Constant (.int 1) k p1) p2)) (tPart (tUn (rU fun i => .int (-i)) (tC (.int 1)))) := po_some (pe_un un_neg pe_int)
  refine wpAny_Slice (thn (po_none.run pins s1 σ H1 (fun o H2 => o = none ∧ H2 = H1) I1 ⟨rfl, rfl⟩) ?_)
  rintro vl s2 ⟨l, H2, I2, pl, rfl, rfl⟩
  refine thn (po_none.run pins s2 σ H2 (fun o H3 => o = none ∧ H3 = H2) I2 ⟨rfl, rfl⟩) ?_
  rintro vu s3 ⟨u, H3, I3, pu, rfl, rfl⟩
  refine thn (hst.run pins s3 σ H3 (fun o H4 => o = some (-1) ∧ H4 = H3) I3 ⟨1, rfl, -1, rfl, rfl, rfl⟩) ?_
  rintro vs s4 ⟨o, H4, I4, ps, rfl, rfl⟩
  have I5 : Inv X pins σ H4 { s4 with heap := s4.heap.push { cls := .type "slice", data := .fields #[vl, vu, vs] } } := I4.kept (t' := s4.toks) fun b ob q => Heap.get?_push_of_some _ q
  obtain ⟨its, r, ht, hz⟩ := I5.tuple hx
  have hlen := r.length
  cases pl
  cases pu
  cases ps
  show wpAny (model X.prog X.w) X.A (subscriptTail e (.Slice none none (some (.UnaryOp .USub (.Constant (.int 1) k p1) p2)) p3) (.ref a) (.ref s4.heap.objs.size)) (EP X pins σ Q) X.xe _
  refine tail_any (ops := [.ref a, .ref s4.heap.objs.size]) ht.typeIs (PyProof.Rows.slot_tuple_getitem.lookup) ?_ (by with_unfolding_all rfl)
  refine HT.pv_getItemBack ht (Heap.IsSliceOf.new _ _ _ _) ?_ (by rw [List.size_toArray]; omega)
  refine ⟨.ref _, _, I5.laid (t' := s4.toks) (o := .tup xs.reverse) (fun b ob q => Heap.get?_push_of_some _ q) (Nat.le_refl _) ?_, rfl, q _ (I5.hok.fresh (Nat.le_refl _))⟩
  exact ⟨by rw [List.length_reverse]; exact hz, _, r.reverse, IsTup.new _ _⟩
/-! list == [], tuple != () whatever the items are -/
def rEqNil (K : PySem.W.Frag) : R2 := fun x y H Q => ∃ (a b : Addr) (xs : List V), x = .ref a ∧ y = .ref b ∧ SqL K H a xs ∧ SqL K H b [] ∧ Q (.bl xs.isEmpty) H
theorem op_eqNil (hu : X.A.units < cLine) : OpR X (compareOp .Eq) (rEqNil X.K) := by
  intro pins s σ H x y v u Q I rx ry h
  obtain ⟨a, b, xs, rfl, rfl, ha, hb, q⟩ := h
  cases rx
  cases ry
  obtain ⟨its, r1, p1, z1⟩ := I.list ha
  obtain ⟨its2, r2, p2, z2⟩ := I.list hb
  cases r2
  cases xs with
  | nil =>
    cases r1
    exact SeqAt.RcAt.lists (e := fun _ => true) p1.isList p2.isList rfl hu (fun j h1 _ => absurd h1 (Nat.not_lt_zero _)) X.prog X.w _ _ ⟨.bl true, H, I, rfl, q⟩
  | cons x xs =>
    have hl := r1.length
    exact SeqAt.RcAt.lists_lengths p1.isList p2.isList (by rw [List.size_toArray, ← hl]; rfl) hu X.prog X.w _ _ ⟨.bl false, H, I, rfl, q⟩
def rNeNilT (K : PySem.W.Frag) : R2 := fun x y H Q => ∃ (a b : Addr) (xs : List V), x = .ref a ∧ y = .ref b ∧ SqT K H a xs ∧ SqT K H b [] ∧ Q (.bl (!xs.isEmpty)) H
theorem op_neNilT (hu : X.A.units < cLine) : OpR X (compareOp .NotEq) (rNeNilT X.K) := by
  intro pins s σ H x y v u Q I rx ry h
  obtain ⟨a, b, xs, rfl, rfl, ha, hb, q⟩ := h
  cases rx
  cases ry
  obtain ⟨its, r1, p1, z1⟩ := I.tuple ha
  obtain ⟨its2, r2, p2, z2⟩ := I.tuple hb
  cases r2
  have hl := r1.length
  have key := SeqAt.RcNeAt.tuples (A := X.A) (e := fun _ => true) (show s.heap.IsTuple a its.toArray from p1) (show s.heap.IsTuple b ([] : List Value).toArray from p2) hu (fun j _ h2 => absurd h2 (Nat.not_lt_zero _)) X.prog X.w
  have e : (!((List.range (min its.toArray.size ([] : List Value).toArray.size)).all (fun _ => true) && its.toArray.size == ([] : List Value).toArray.size)) = !xs.isEmpty := by
    rw [List.size_toArray, ← hl]
    cases xs <;> simp
  rw [e] at key
  exact key _ _ ⟨.bl _, H, I, rfl, q⟩
end
end Pv

namespace Pv
open PySem PySem.Spec PyProof.Rows L2
/-! how large data is -/
mutual
def fit (M : Nat) : PyData → Prop
  | .none => True
  | .bool _ => True
  | .int i => i.natAbs ≤ M
  | .str x => (reprText x).length ≤ 40
  | .list xs => fitAll M xs
  | .tuple xs => fitAll M xs
  | .dict kvs => (PyData.shown (.dict kvs)).length ≤ 40 ∧ PyData.showable (.dict kvs) = true
def fitAll (M : Nat) : List PyData → Prop
  | [] => True
  | x :: xs => fit M x ∧ fitAll M xs
end
mutual
def wt : PyData → Nat
  | .none => 40
  | .bool _ => 40
  | .int _ => 40
  | .str _ => 40
  | .list xs => wtAll xs + 3
  | .tuple xs => wtAll xs + 3
  | .dict _ => 40
def wtAll : List PyData → Nat
  | [] => 0
  | x :: xs => wt x + 2 + wtAll xs
end
theorem int_text {i : Int} {M : Nat} (h : i.natAbs ≤ M) (hM : M < 10 ^ 35) : (PyData.int i).showable = true ∧ (PyData.int i).shown.length ≤ 40 := by
  have h' : i.natAbs < 10 ^ 35 := by omega
  refine ⟨?_, ?_⟩
  · simp only [PyData.showable, decide_eq_true_eq]
    have : i.natAbs.log2 < 200 := by
      by_cases h0 : i.natAbs = 0
      · rw [h0]; decide
      · exact (Nat.log2_lt h0).mpr (Nat.lt_trans h' (by decide))
    omega
  · have e := int_text_length_le10 (k := 35) (by decide) h'
    show (Str.ofString (toString i)).length ≤ 40
    rw [PySem.ofString_length]
    omega
mutual
theorem fit_ok {M : Nat} (hM : M < 10 ^ 35) : ∀ {d : PyData}, fit M d → d.showable = true ∧ d.shown.length ≤ wt d
  | .none, _ => by simp only [PyData.showable, PyData.shown, wt]; decide
  | .bool b, _ => by cases b <;> (simp only [PyData.showable, PyData.shown, wt]; decide)
  | .int i, h => by
    have := int_text (i := i) (M := M) (by simpa only [fit] using h) hM
    simp only [wt]; exact this
  | .str x, h => by simp only [fit] at h; simp only [PyData.showable, PyData.shown, wt]; exact ⟨trivial, h⟩
  | .list xs, h => by
    obtain ⟨h1, h2⟩ := fitAll_ok hM (xs := xs) (by simpa only [fit] using h)
    simp only [PyData.showable, PyData.shown, wt]
    refine ⟨h1, ?_⟩
    have e := listText_len_le (PyData.shownAll xs)
    omega
  | .tuple xs, h => by
    obtain ⟨h1, h2⟩ := fitAll_ok hM (xs := xs) (by simpa only [fit] using h)
    simp only [PyData.showable, PyData.shown, wt]
    refine ⟨h1, ?_⟩
    have e := tupleText_len_le (PyData.shownAll xs)
    omega
  | .dict kvs, h => by simp only [fit] at h; simp only [wt]; exact ⟨h.2, h.1⟩
theorem fitAll_ok {M : Nat} (hM : M < 10 ^ 35) : ∀ {xs : List PyData}, fitAll M xs → PyData.showableAll xs = true ∧ ((PyData.shownAll xs).map (·.length)).sum + 2 * (PyData.shownAll xs).length ≤ wtAll xs
  | [], _ => by simp [PyData.showableAll, PyData.shownAll, wtAll]
  | x :: xs, h => by
    have h' : fit M x ∧ fitAll M xs := by simpa only [fitAll] using h
    obtain ⟨a1, a2⟩ := fit_ok hM h'.1
    obtain ⟨b1, b2⟩ := fitAll_ok hM h'.2
    refine ⟨by simp [PyData.showableAll, a1, b1], ?_⟩
    simp only [PyData.shownAll, List.map_cons, List.sum_cons, List.length_cons, wtAll]
    omega
end
mutual
theorem fit_mono {M M' : Nat} (h : M ≤ M') : ∀ {d : PyData}, fit M d → fit M' d
  | .none, _ => by simp [fit]
  | .bool _, _ => by simp [fit]
  | .int i, q => by simp only [fit] at *; omega
  | .str x, q => by simpa only [fit] using q
  | .list xs, q => by simp only [fit] at *; exact fitAll_mono h q
  | .tuple xs, q => by simp only [fit] at *; exact fitAll_mono h q
  | .dict _, q => by simpa only [fit] using q
theorem fitAll_mono {M M' : Nat} (h : M ≤ M') : ∀ {xs : List PyData}, fitAll M xs → fitAll M' xs
  | [], _ => by simp [fitAll]
  | x :: xs, q => by
    have q' : fit M x ∧ fitAll M xs := by simpa only [fitAll] using q
    simp only [fitAll]
    exact ⟨fit_mono h q'.1, fitAll_mono h q'.2⟩
end
theorem fitAll_iff {M : Nat} : ∀ {xs : List PyData}, fitAll M xs ↔ ∀ x ∈ xs, fit M x
  | [] => by simp [fitAll]
  | x :: xs => by simp [fitAll, fitAll_iff (xs := xs)]
theorem wtAll_app : ∀ (xs ys : List PyData), wtAll (xs ++ ys) = wtAll xs + wtAll ys
  | [], ys => by simp [wtAll]
  | x :: xs, ys => by simp only [List.cons_append, wtAll, wtAll_app xs ys]; omega
theorem wtAll_rev : ∀ xs : List PyData, wtAll xs.reverse = wtAll xs
  | [] => rfl
  | x :: xs => by rw [List.reverse_cons, wtAll_app, wtAll_rev xs]; simp only [wtAll]; omega
theorem wtAll_split (xs : List PyData) (n : Nat) : wtAll xs = wtAll (xs.take n) + wtAll (xs.drop n) := by rw [← wtAll_app, List.take_append_drop]
theorem wtAll_len : ∀ xs : List PyData, 2 * xs.length ≤ wtAll xs
  | [] => by simp [wtAll]
  | x :: xs => by have := wtAll_len xs; simp only [wtAll, List.length_cons]; omega
theorem depthAll_le {k : Nat} : ∀ {xs : List PyData}, PyData.depthAll xs ≤ k ↔ ∀ x ∈ xs, x.depth ≤ k
  | [] => by simp [PyData.depthAll]
  | x :: xs => by
    have := depthAll_le (k := k) (xs := xs)
    simp only [PyData.depthAll, List.mem_cons, forall_eq_or_imp, ← this]
    omega
structure Fit (M k W : Nat) (d : PyData) : Prop where
  ok : fit M d
  dp : d.depth ≤ k
  wt : wt d ≤ W
theorem Fit.mono {M M' k k' W W' : Nat} {d : PyData} (h : Fit M k W d) (h1 : M ≤ M') (h2 : k ≤ k') (h3 : W ≤ W') : Fit M' k' W' d := ⟨fit_mono h1 h.ok, Nat.le_trans h.dp h2, Nat.le_trans h.wt h3⟩
theorem Fit.at {M k W : Nat} {ds : List PyData} {d : PyData} (h : Fit M k W (.tuple ds)) (hm : d ∈ ds) : Fit M (k - 1) W d ∧ d.depth + 1 ≤ (PyData.tuple ds).depth ∧ 1 ≤ k := by
  have h1 : fitAll M ds := by have := h.ok; simpa only [fit] using this
  have h2 := h.dp
  simp only [PyData.depth] at h2
  have h3 : ∀ x ∈ ds, x.depth ≤ PyData.depthAll ds := depthAll_le.mp (Nat.le_refl _)
  have h4 := h3 d hm
  refine ⟨⟨fitAll_iff.mp h1 d hm, by omega, ?_⟩, by simp only [PyData.depth]; omega, by omega⟩
  obtain ⟨a, b, rfl⟩ := List.append_of_mem hm
  have h5 := h.wt
  simp only [Pv.wt, wtAll_app, wtAll] at h5
  omega
/-- a tuple made of parts -/
theorem Fit.tup {M k W : Nat} {ds : List PyData} (h1 : ∀ d ∈ ds, fit M d ∧ d.depth + 1 ≤ k) (h0 : 1 ≤ k) (h2 : wtAll ds + 3 ≤ W) : Fit M k W (.tuple ds) := by
  refine ⟨by simp only [fit]; exact fitAll_iff.mpr fun d hd => (h1 d hd).1, ?_, by simpa only [Pv.wt] using h2⟩
  simp only [PyData.depth]
  have : PyData.depthAll ds ≤ k - 1 := depthAll_le.mpr fun d hd => by have := (h1 d hd).2; omega
  omega
theorem Fit.lst {M k W : Nat} {ds : List PyData} (h1 : ∀ d ∈ ds, fit M d ∧ d.depth + 1 ≤ k) (h0 : 1 ≤ k) (h2 : wtAll ds + 3 ≤ W) : Fit M k W (.list ds) := by
  refine ⟨by simp only [fit]; exact fitAll_iff.mpr fun d hd => (h1 d hd).1, ?_, by simpa only [Pv.wt] using h2⟩
  simp only [PyData.depth]
  have : PyData.depthAll ds ≤ k - 1 := depthAll_le.mpr fun d hd => by have := (h1 d hd).2; omega
  omega
theorem Fit.parts {M k W : Nat} {ds : List PyData} (h : Fit M k W (.tuple ds)) : (∀ d ∈ ds, fit M d ∧ d.depth + 1 ≤ k) ∧ 1 ≤ k ∧ wtAll ds + 3 ≤ W := by
  have h0 : 1 ≤ k := by have := h.dp; simp only [PyData.depth] at this; omega
  refine ⟨fun d hd => ⟨(h.at hd).1.ok, ?_⟩, h0, by have := h.wt; simpa only [Pv.wt] using this⟩
  have := (h.at hd).1.dp
  omega
theorem Fit.int {M k W : Nat} {i : Int} (h : i.natAbs ≤ M) (hW : 40 ≤ W) : Fit M k W (.int i) := ⟨by simpa only [fit] using h, by simp [PyData.depth], by simpa only [Pv.wt] using hW⟩
/-- what is shown together -/
theorem fit_pair {M : Nat} (hM : M < 10 ^ 35) {k W : Nat} {a b : PyData} (ha : Fit M k W a) (hb : Fit M k W b) (hk : k ≤ 50) (hW : W ≤ 1000000) :
    (PyData.list [a, b]).showable = true ∧ (PyData.list [a, b]).depth ≤ 60 ∧ (PyData.list [a, b]).shown.length ≤ sizeLine := by
  have h : Fit M (k + 1) (2 * W + 10) (.list [a, b]) := by
    refine Fit.lst ?_ (by omega) ?_
    · intro d hd
      rcases List.mem_cons.mp hd with rfl | hd
      · exact ⟨ha.ok, by have := ha.dp; omega⟩
      · rcases List.mem_cons.mp hd with rfl | hd
        · exact ⟨hb.ok, by have := hb.dp; omega⟩
        · cases hd
    · have h1 := ha.wt
      have h2 := hb.wt
      simp only [wtAll]; omega
  obtain ⟨s1, s2⟩ := fit_ok hM h.ok
  refine ⟨s1, Nat.le_trans h.dp (by omega), Nat.le_trans s2 (Nat.le_trans h.wt ?_)⟩
  rw [sizeLine_eq]; omega
/-! the data of instances and assignments -/
theorem fit_dI {M : Nat} {ns : List Int} (h : ∀ i ∈ ns, i.natAbs ≤ M) : Fit M 1 (ns.length * 42 + 3) (dI ns) := by
  have hw : wtAll (ns.map PyData.int) = ns.length * 42 := by
    clear h
    induction ns with
    | nil => rfl
    | cons a ns ih => simp only [List.map_cons, wtAll, wt, ih, List.length_cons]; omega
  refine Fit.tup ?_ (by decide) (by rw [hw]; exact Nat.le_refl _)
  intro d hd
  obtain ⟨i, hi, rfl⟩ := List.mem_map.mp hd
  exact ⟨by simpa only [fit] using h i hi, by simp [PyData.depth]⟩
theorem wtAll_le {W : Nat} : ∀ {ds : List PyData}, (∀ d ∈ ds, wt d ≤ W) → wtAll ds ≤ ds.length * (W + 2)
  | [], _ => by simp [wtAll]
  | d :: ds, h => by
    have h1 := h d (by simp)
    have h2 := wtAll_le (W := W) (ds := ds) (fun x hx => h x (by simp [hx]))
    simp only [wtAll, List.length_cons, Nat.succ_mul]; omega
theorem fit_dAsg {M : Nat} {rows : List (List Int)} (h : ∀ row ∈ rows, row.length ≤ 10 ∧ ∀ i ∈ row, i.natAbs ≤ M) (hr : rows.length ≤ 20) : Fit M 2 10000 (dAsg rows) := by
  unfold dAsg
  refine Fit.tup ?_ (by decide) ?_
  · intro d hd
    obtain ⟨row, hrow, rfl⟩ := List.mem_map.mp hd
    have := fit_dI (M := M) (h row hrow).2
    exact ⟨this.ok, by have := this.dp; omega⟩
  · have := wtAll_le (W := 430) (ds := rows.map dI) (by
      intro d hd
      obtain ⟨row, hrow, rfl⟩ := List.mem_map.mp hd
      have := (fit_dI (M := M) (h row hrow).2).wt
      have := (h row hrow).1
      omega)
    rw [List.length_map] at this
    omega
theorem fit_dInst {M : Nat} {cs : List Int} {gs : List Gp} (hc : cs.length ≤ 10 ∧ ∀ i ∈ cs, i.natAbs ≤ M) (hg : gs.length ≤ 20) (h : ∀ g ∈ gs, g.1.length ≤ 10 ∧ (∀ i ∈ g.1, i.natAbs ≤ M) ∧ g.2.natAbs ≤ M) : Fit M 5 20000 (dInst cs gs) := by
  have f1 := fit_dI hc.2
  have f2 : ∀ g ∈ gs, Fit M 2 600 (dGrp g) := by
    intro g hgm
    have f3 := fit_dI (M := M) (h g hgm).2.1
    have hl := (h g hgm).1
    unfold dGrp
    refine Fit.tup ?_ (by decide) ?_
    · intro d hd
      rcases List.mem_cons.mp hd with rfl | hd
      · exact ⟨f3.ok, by have := f3.dp; omega⟩
      · rcases List.mem_cons.mp hd with rfl | hd
        · exact ⟨by simpa only [fit] using (h g hgm).2.2, by simp [PyData.depth]⟩
        · cases hd
    · have := f3.wt
      simp only [wtAll, Pv.wt]; omega
  have f4 : Fit M 3 13000 (.tuple (gs.map dGrp)) := by
    refine Fit.tup ?_ (by decide) ?_
    · intro d hd
      obtain ⟨g, hgm, rfl⟩ := List.mem_map.mp hd
      exact ⟨(f2 g hgm).ok, by have := (f2 g hgm).dp; omega⟩
    · have := wtAll_le (W := 600) (ds := gs.map dGrp) (by
        intro d hd
        obtain ⟨g, hgm, rfl⟩ := List.mem_map.mp hd
        exact (f2 g hgm).wt)
      rw [List.length_map] at this
      omega
  unfold dInst
  refine Fit.tup ?_ (by decide) ?_
  · intro d hd
    rcases List.mem_cons.mp hd with rfl | hd
    · exact ⟨f1.ok, by have := f1.dp; omega⟩
    · rcases List.mem_cons.mp hd with rfl | hd
      · exact ⟨f4.ok, by have := f4.dp; omega⟩
      · cases hd
  · have h1 := f1.wt
    have h2 := f4.wt
    have := hc.1
    simp only [wtAll]; omega
end Pv

namespace Pv
open PySem PySem.Spec PyProof.Rows L2
/-! errors of the program's own classes -/
abbrev VEbm : List Value := [.type "ValueError", .type "Exception", .type "BaseException", .type "object"]
theorem pmk_own0 {X : Cx} {C : Addr} {bmB : List Value} {B newId initId : String} {x : Str} {p pos : Pos} (F : ExcBaseFacts B newId initId bmB) (q : PySem.W.excIn X.K C bmB newId = true) (gC : X.mg x = some (.ref C))
    (kC : PySem.W.keepIn X.K (.ref C) = true) (r : Raises X (.ref C)) (hg : Gl X x) (hdb : (x == ("__debug__" : Str)) = false := by decide) :
    PMk X (.Call (.Name x p) [] [] pos) (fun _ H Q => Q (.ref C) none H) := by
  intro pins s σ H Q I h
  refine wpAny_Call_Name_kw (ld_glob I hg gC ?_ hdb)
  refine PySem.W.callWith_K0 I.kIn kC ?_
  obtain ⟨bm, N, nm, qn, bs, hdct, sn, sub, ab, col, dd, k0, k1, k2, k3, k5, mN, hC, hN, hni, T⟩ := exc_obj I.kIn q
  show wpAny _ _ (call (.ref C) []) _ _ _
  refine wpAny_call_exc_subT F T hC hN hni (fun h' e hm => ?_) (Nat.zero_le _)
  exact mk_of I hm r h (I.hok.gone hm.new)
/-- what is asked of a class whose errors isinstance is asked of -/
structure IsC (K : PySem.W.Frag) (D : Addr) : Prop where
  cl : (PySem.W.clsIn K D).isSome = true
  hg : PySem.W.findIn K (.ref D) "__getattribute__" = some (some (.builtin "BaseException.__getattribute__"))
  hk : PySem.W.findIn K (.ref D) "__getattr__" = some none
  hs : PySem.W.subIn K (.ref D) (.type "BaseException") = some true
  ty : PySem.W.typeIn K (.ref D) = some (.type "type")
  ha : PySem.W.findIn K (.ref D) "__class__" = some (some (.builtin "object.__class__"))
  hn : PySem.W.specialIn K (.builtin "object.__class__") "__get__" = some (some (.builtin "getset_descriptor.__get__"))
  ht : PySem.W.takesIn K (.builtin "object.__class__") = some true
  hm : PySem.W.mroIn K D (.type "object") = some true
  kp : PySem.W.keepIn K (.ref D) = true
def isCB (K : PySem.W.Frag) (D : Addr) : Bool :=
  (PySem.W.clsIn K D).isSome && (decide (PySem.W.findIn K (.ref D) "__getattribute__" = some (some (.builtin "BaseException.__getattribute__"))) && (decide (PySem.W.findIn K (.ref D) "__getattr__" = some none) &&
  (decide (PySem.W.subIn K (.ref D) (.type "BaseException") = some true) && (decide (PySem.W.typeIn K (.ref D) = some (.type "type")) && (decide (PySem.W.findIn K (.ref D) "__class__" = some (some (.builtin "object.__class__"))) &&
  (decide (PySem.W.specialIn K (.builtin "object.__class__") "__get__" = some (some (.builtin "getset_descriptor.__get__"))) && (decide (PySem.W.takesIn K (.builtin "object.__class__") = some true) &&
  (decide (PySem.W.mroIn K D (.type "object") = some true) && PySem.W.keepIn K (.ref D)))))))))
theorem isCB_ok {K : PySem.W.Frag} {D : Addr} (h : isCB K D = true) : IsC K D := by
  simp only [isCB, Bool.and_eq_true, decide_eq_true_eq] at h
  obtain ⟨h1, h2, h3, h4, h5, h6, h7, h8, h9, h10⟩ := h
  exact ⟨h1, h2, h3, h4, h5, h6, h7, h8, h9, h10⟩
theorem IsC.raises {X : Cx} {D : Addr} (c : IsC X.K D) : Raises X (.ref D) := raises_own c.hs c.ty
/-- isinstance(e, c), e the error that the suite holds, c a class or a tuple of classes -/
def rIsX (K : PySem.W.Frag) (a : Addr) (cls : Value) (d : Option Addr) : RC := fun xs H Q => ∃ (D : Addr) (c : V) (b : Bool), cls = .ref D ∧ IsC K D ∧ (∀ dx, d = some dx → ∃ fs, H dx = some (.xd fs)) ∧ xs = [.ref a, c] ∧
  ((∃ u, ClsV c u ∧ PySem.W.kitOne K (.ref D) u = some b) ∨ ∃ (tp : Addr) (cs : List V) (us : List Value), c = .ref tp ∧ H tp = some (.tup cs) ∧ Paired ClsV cs us ∧ PySem.W.kitAny K (.ref D) us = some b) ∧ Q (.bl b) H
theorem call_isX {X : Cx} {a : Addr} {oe : Obj} {cls : Value} {d : Option Addr} {pn : List (Addr × Obj)} (hz : Zc cls d oe) (hf : ∃ vs, oe.data = .fields vs) : CallR (X.suite a ((a, oe) :: pn)) (.builtin "isinstance") (rIsX X.K a cls d) := by
  intro pins s σ H xs us Q I r h
  obtain ⟨D, c, b, rfl, C, hdx, rfl, hc, q⟩ := h
  obtain ⟨u1, u2, rfl, r1, r2⟩ := vals2 r
  cases (show u1 = Value.ref a from r1)
  obtain ⟨hget, _⟩ := I.pin (a, oe) (List.mem_append.mpr (.inl List.mem_cons_self))
  obtain ⟨vs, hv⟩ := hf
  have J : ∃ od, PySem.W.InstAt s.heap a oe D od := by
    cases d with
    | none =>
      refine ⟨none, hget, hz.1, by unfold PySem.W.notCls; rw [hv] <;> rfl, ?_⟩
      rw [hz.2]; trivial
    | some dx =>
      obtain ⟨fs, e⟩ := hdx dx rfl
      have hx : ObjOk X.prog X.w H s.heap dx (.xd fs) := I.hok dx _ e
      obtain ⟨mA, hns, _⟩ := hx
      obtain ⟨od, ho, _⟩ := lookIn_ns hns
      exact ⟨some od, hget, hz.1, by unfold PySem.W.notCls; rw [hv] <;> rfl, by rw [hz.2]; exact ho⟩
  obtain ⟨od, J⟩ := J
  have Z := PySem.W.kitx_exc (K := X.K) (x := a) (C := D) (ox := oe) (od := od) C.cl C.hg C.hk C.hs C.ha C.hn C.ht C.hm
  rcases hc with ⟨u, ku, e⟩ | ⟨tp, cs, ws, rfl, hT, ks, e⟩
  · have e2 := ku.eq r2
    subst e2
    exact PySem.W.kia_one Z I.kIn J e (fun z => nomatch z) fun tk => ⟨.bl b, H, I.kept (t' := tk) fun _ _ z => z, rfl, q⟩
  · cases (show u2 = Value.ref tp from r2)
    obtain ⟨_, its, rv, o, h1, h2, n, h3⟩ := (show ObjOk X.prog X.w H s.heap tp (.tup cs) from I.hok tp _ hT)
    have e3 := ClsV.all ks rv
    subst e3
    obtain ⟨oc, od', dt, sl⟩ := o
    simp only at h2 h3
    subst h2 h3
    exact PySem.W.kia_tup Z I.kIn J h1 e (fun z => nomatch z) fun tk => ⟨.bl b, H, I.kept (t' := tk) fun _ _ z => z, rfl, q⟩
end Pv

set_option maxHeartbeats 1000000
/-! zip(*rows) over tuples, a name as the target -/
namespace ZS
open PySem
abbrev ZAt (h : Heap) (z TI TO : Addr) (f0 : Value) (f1 : Bool) : Prop :=
  h.get? z = some { cls := .type "zip", dict := none, data := .fields #[f0, .bool f1, .bool false, .ref TI, .ref TO], slots := #[] }
abbrev TAt (h : Heap) (T : Addr) (xs : List Value) : Prop := h.get? T = some { cls := .type "tuple", data := .seq xs.toArray }
def itsOf (b n : Nat) : List Value := (List.range n).map fun k => .ref (b + k)
theorem its_len (b n : Nat) : (itsOf b n).length = n := by simp [itsOf]
theorem its_at {b n k : Nat} (h : k < n) : (itsOf b n)[k]? = some (.ref (b + k)) := by simp [itsOf, h]
/-- where the zip's own objects stand: the iterators from b on, then the tuple of them, the tuple it keeps, the zip -/
structure St0 (h : Heap) (b : Nat) (rows : List Addr) (f0 : Value) (f1 : Bool) (at_ : Nat → Nat) : Prop where
  zip : ZAt h (b + rows.length + 2) (b + rows.length) (b + rows.length + 1) f0 f1
  ti : TAt h (b + rows.length) (itsOf b rows.length)
  to : ∃ kept : List Value, kept.length = rows.length ∧ TAt h (b + rows.length + 1) kept
  it : ∀ (k : Nat) (row : Addr), rows[k]? = some row → h.IsTupleIter (b + k) row (at_ k)
/-- what is not the zip's own stays -/
def Off (b n : Nat) (h h' : Heap) : Prop := ∀ c o, (c < b ∨ b + n + 2 < c) → h.get? c = some o → h'.get? c = some o
theorem Off.refl (b n : Nat) (h : Heap) : Off b n h h := fun _ _ _ e => e
theorem Off.trans {b n : Nat} {h h1 h2 : Heap} (x : Off b n h h1) (y : Off b n h1 h2) : Off b n h h2 := fun c o r e => y c o r (x c o r e)
theorem Off.but {b n c0 : Nat} {h h' : Heap} (e : Heap.SameBut c0 h h') (hc : b ≤ c0 ∧ c0 ≤ b + n + 2) : Off b n h h' := fun c o r x => by
  rw [e.2 c (fun z => by subst z; omega)]; exact x
section
variable {prog : Program} {w : World} {A : Around} {E : Value → Shared → Prop} {s : Shared}
theorem alive {a : Addr} {Q : Option Obj → Shared → Prop} (h : Q (s.heap.get? a) s) : wpAny (model prog w) A (loadIfAlive a) Q E s := by
  intro Γ p hΓ
  unfold loadIfAlive
  rw [Sem.wp_loadIfAlive]
  exact wpAny_pure h Γ p hΓ
theorem nextOf_item {it l : Addr} {i : Nat} {items} {x : Value} {Q : Value → Shared → Prop} (hit : s.heap.IsTupleIter it l i) (hl : s.heap.IsTuple l items) (hx : items[i]? = some x)
    (hQ : ∀ h', h'.IsTupleIter it l (i + 1) → Heap.SameBut it s.heap h' → Q x { s with heap := h' }) : wpAny (model prog w) A (Builtin.SmallTypes.nextOf (.ref it)) Q E s := RZ.nextOf_tuple_item hit hl hx hQ
/-- the draws, one iterator after another, into the tuple that the zip keeps -/
structure Half (s : Shared) (b : Nat) (rows : List Addr) (i : Nat) (col : List Value) (f0 : Value) (f1 : Bool) (k : Nat) (s' : Shared) : Prop where
  ex : ∃ h', s' = { s with heap := h' } ∧ h'.objs.size = s.heap.objs.size ∧ Off b rows.length s.heap h' ∧ ZAt h' (b + rows.length + 2) (b + rows.length) (b + rows.length + 1) f0 f1 ∧ TAt h' (b + rows.length) (itsOf b rows.length) ∧
    (∃ kept : List Value, kept.length = rows.length ∧ TAt h' (b + rows.length + 1) kept ∧ kept.take k = col.take k) ∧ ∀ (j : Nat) (row : Addr), rows[j]? = some row → h'.IsTupleIter (b + j) row (if j < k then i + 1 else i)
theorem ne_nat {a b : Nat} (h : ¬ (a = b)) : (show Addr from a) ≠ (show Addr from b) := h
theorem tuple_off {b n : Nat} {h h' : Heap} {l : Addr} {items : Array Value} (x : Off b n h h') (hl : l < b) (ht : h.IsTuple l items) : h'.IsTuple l items := by
  obtain ⟨o, ho, r⟩ := ht
  exact ⟨o, x l o (.inl hl) ho, r⟩
end
end ZS

namespace ZS
open PySem
section
variable {prog : Program} {w : World} {A : Around} {E : Value → Shared → Prop} {s : Shared}
theorem own_free {z TI TO : Addr} {f0 : Value} {f1 : Bool} (hz : ZAt s.heap z TI TO f0 f1) (hf : f0 = .none ∨ ∃ a : Nat, f0 = rawInt a) :
    wpAny (model prog w) A (Builtin.SmallTypes.ownedTupleIsFree (.ref z)) (fun r s' => (r = true ∧ s' = s) ∨ (r = false ∧ ∃ h', s' = { s with heap := h' } ∧ ZAt h' z TI TO f0 true ∧ Heap.SameBut z s.heap h')) E s := by
  unfold Builtin.SmallTypes.ownedTupleIsFree
  rcases hf with rfl | ⟨a, rfl⟩
  · exact wpAny_bind (wpAny_field hz rfl (x := .none) rfl (wpAny_pure (.inl ⟨rfl, rfl⟩)))
  · refine wpAny_bind (wpAny_field hz rfl (x := rawInt a) rfl ?_)
    show wpAny _ _ (loadIfAlive (Int.toNat a) >>= _) _ _ _
    refine wpAny_bind (alive ?_)
    rw [Int.toNat_natCast]
    cases e : s.heap.get? a with
    | none => exact wpAny_pure (.inl ⟨rfl, rfl⟩)
    | some o =>
      show wpAny _ _ (field (.ref z) 1 >>= _) _ _ _
      refine wpAny_bind (wpAny_field hz rfl (x := .bool f1) rfl ?_)
      cases f1 with
      | true => exact wpAny_pure (.inr ⟨rfl, s.heap, rfl, hz, ⟨rfl, fun _ _ => rfl⟩⟩)
      | false =>
        show wpAny _ _ (setField (.ref z) 1 (.bool true) >>= _) _ _ _
        exact wpAny_bind (wpAny_setField_rec hz (by simp) fun h' hz' hs' => wpAny_pure (.inr ⟨rfl, h', rfl, hz', hs'⟩))
theorem cons_drop {α : Type} {x : α} {rest L : List α} {k : Nat} (e : x :: rest = L.drop k) : L[k]? = some x ∧ rest = L.drop (k + 1) := by
  constructor
  · have := List.getElem?_drop (xs := L) (i := k) (j := 0)
    rw [← e] at this
    simpa using this.symm
  · rw [← List.drop_drop, ← e]; rfl
theorem zipIdx_at {b n k : Nat} {x : Value × Nat} (h : ((itsOf b n).zipIdx)[k]? = some x) : x = (.ref (b + k), k) ∧ k < n := by
  rw [List.getElem?_zipIdx] at h
  cases e : (itsOf b n)[k]? with
  | none => rw [e] at h; simp at h
  | some v =>
    have hk : k < n := by have := (List.getElem?_eq_some_iff.mp e).1; rw [its_len] at this; exact this
    rw [its_at hk] at e
    cases e
    rw [its_at hk] at h
    simp at h
    exact ⟨h.symm, hk⟩
set_option maxHeartbeats 4000000 in
theorem next_item {b : Nat} {rows : List Addr} {f0 : Value} {f1 : Bool} {i : Nat} {col : List Value} {Q : Value → Shared → Prop} (st : St0 s.heap b rows f0 f1 (fun _ => i)) (hf : f0 = .none ∨ ∃ a : Nat, f0 = rawInt a) (hn : 0 < rows.length) (hn2 : rows.length ≤ 1000)
    (hr : ∀ row ∈ rows, row < b) (hc : col.length = rows.length) (hx : ∀ (k : Nat) (row : Addr), rows[k]? = some row → ∃ (items : Array Value) (x : Value), s.heap.IsTuple row items ∧ items[i]? = some x ∧ col[k]? = some x)
    (hQ : ∀ h' f0' f1', St0 h' b rows f0' f1' (fun _ => i + 1) → (f0' = .none ∨ ∃ a : Nat, f0' = rawInt a) → TAt h' s.heap.objs.size col → h'.objs.size = s.heap.objs.size + 1 → Off b rows.length s.heap h' → Q (.ref s.heap.objs.size) { s with heap := h' }) :
    wpAny (model prog w) A (Builtin.«zip.__next__» ⟨[.ref (b + rows.length + 2)], []⟩) (fun fin s' => ∃ v, fin = .done (.ret v) ∧ Q v s') E s := by
  show wpAny _ _ (field (.ref (b + rows.length + 2)) 2 >>= _) _ _ _
  refine wpAny_bind (wpAny_field st.zip rfl (x := .bool false) rfl ?_)
  show wpAny _ _ (field (.ref (b + rows.length + 2)) 3 >>= _) _ _ _
  refine wpAny_bind (wpAny_field st.zip rfl (x := .ref (b + rows.length)) rfl ?_)
  refine wpAny_bind (wpAny_seqItems st.ti rfl ?_)
  have hem : (itsOf b rows.length).toArray.isEmpty = false := by
    have := its_len b rows.length
    cases e : itsOf b rows.length with
    | nil => rw [e] at this; simp at this; omega
    | cons _ _ => rfl
  dsimp only
  rw [if_neg (by rw [hem]; exact Bool.false_ne_true)]
  refine wpAny_bind (wpAny_mono (own_free st.zip hf) (fun r s1 h1 => ?_) (fun _ _ x => x))
  have hlt : b + rows.length + 2 < s.heap.objs.size := Heap.lt_size st.zip
  rcases h1 with ⟨rfl, rfl⟩ | ⟨rfl, h1, rfl, hz1, hs1⟩
  · -- the tuple that it keeps is free
    rw [if_pos rfl]
    refine wpAny_bind (wpAny_rule ?_)
    refine wpAny_bind (wpAny_field st.zip rfl (x := .ref (b + rows.length + 1)) rfl ?_)
    refine wpAny_bind (wpAny_setField_rec st.zip (by simp) fun h2 hz2 hs2 => ?_)
    replace hz2 : ZAt h2 (b + rows.length + 2) (b + rows.length) (b + rows.length + 1) .ellipsis f1 := hz2
    refine wpAny_bind (wpAny_mono (wpAny_forIn_list _ (fun rest bb s' => ∃ k, rest = ((itsOf b rows.length).zipIdx).drop k ∧ bb = (none, ()) ∧ Half s1 b rows i col .ellipsis f1 k s')
      (fun bb s' => bb = (none, ()) ∧ Half s1 b rows i col .ellipsis f1 rows.length s') ?turn ?fin _ _ ?start) ?after (fun _ _ x => x))
    case start =>
      obtain ⟨kept, hk1, hk2⟩ := st.to
      refine ⟨0, rfl, rfl, ⟨h2, rfl, hs2.1, Off.but hs2 (by omega), hz2, ?_, ⟨kept, hk1, ?_, by simp⟩, fun j row hj => ?_⟩⟩
      · show h2.get? _ = _
        rw [hs2.2 _ (ne_nat (by omega))]; exact st.ti
      · show h2.get? _ = _
        rw [hs2.2 _ (ne_nat (by omega))]; exact hk2
      · have hj' := (List.getElem?_eq_some_iff.mp hj).1
        obtain ⟨o, ho, r⟩ := st.it j row hj
        exact ⟨o, by rw [hs2.2 _ (ne_nat (by omega))]; exact ho, by simpa using r⟩
    case fin =>
      rintro bb s' ⟨k, e, rfl, hh⟩
      refine ⟨rfl, ?_⟩
      have hk : rows.length ≤ k := by
        have := congrArg List.length e
        rw [List.length_drop, List.length_zipIdx, its_len] at this
        simp at this
        omega
      obtain ⟨h', e1, e2, e3, e4, e5, ⟨kept, e6, e7, e8⟩, e9⟩ := hh.ex
      refine ⟨h', e1, e2, e3, e4, e5, ⟨kept, e6, e7, ?_⟩, fun j row hj => ?_⟩
      · rw [List.take_of_length_le (by omega), List.take_of_length_le (by omega)] at e8 ⊢
        exact e8
      · have := e9 j row hj
        have hj' := (List.getElem?_eq_some_iff.mp hj).1
        rw [if_pos (show j < k by omega)] at this
        rw [if_pos hj']; exact this
    case turn =>
      rintro x rest bb s' ⟨k, e, rfl, hh⟩
      obtain ⟨e1, e2⟩ := cons_drop e
      obtain ⟨rfl, hk⟩ := zipIdx_at e1
      obtain ⟨h', rfl, hsz, hoff, hz', hti', ⟨kept, hk1, hk2, hk3⟩, hits⟩ := hh.ex
      obtain ⟨row, hrow⟩ : ∃ row, rows[k]? = some row := ⟨rows[k], List.getElem?_eq_getElem hk⟩
      obtain ⟨items, v, hI, hv, hcv⟩ := hx k row hrow
      have hit := hits k row hrow
      rw [if_neg (Nat.lt_irrefl _)] at hit
      dsimp only
      refine wpAny_bind (wpAny_onRaise ?_)
      show wpAny _ _ (Builtin.SmallTypes.nextOf (.ref (b + k)) >>= _) _ _ _
      refine wpAny_bind (nextOf_item (s := { s1 with heap := h' }) hit (tuple_off hoff (hr row (List.mem_of_getElem? hrow)) hI) hv fun h3 hit3 hs3 => wpAny_pure ?_)
      dsimp only
      have hto3 : TAt h3 (b + rows.length + 1) kept := by
        show h3.get? _ = _
        rw [hs3.2 _ (ne_nat (by omega))]; exact hk2
      refine wpAny_bind (wpAny_seqItems (s := { s1 with heap := h3 }) hto3 rfl ?_)
      dsimp only
      refine wpAny_bind (wpAny_updateSeq (s := { s1 with heap := h3 }) hto3 rfl ?_ (by rw [List.size_toArray]; have := Pv.rLenQ; exact Nat.le_trans (by omega) (show 1000 ≤ sizeLine by decide)) (by simp only [Array.size_setIfInBounds, List.size_toArray]; exact Nat.le_trans (by omega) (show 1000 ≤ sizeLine + 1 by decide)))
      refine wpAny_bind (wpAny_letGo (wpAny_pure ?_))
      have hs4 : Heap.SameBut (b + rows.length + 1) h3 (h3.update (b + rows.length + 1) (Obj.mapSeq fun x => x.setIfInBounds k v)) := Heap.SameBut.update ..
      generalize hh4 : h3.update (b + rows.length + 1) (Obj.mapSeq fun x => x.setIfInBounds k v) = h4 at hs4
      have hto4 : TAt h4 (b + rows.length + 1) (kept.set k v) := by
        show h4.get? _ = _
        rw [← hh4, Heap.get?_update_self _ hto3 rfl]
        simp [Obj.mapSeq]
      refine ⟨k + 1, e2, rfl, ⟨h4, rfl, ?_, ?_, ?_, ?_, ⟨kept.set k v, ?_, hto4, ?_⟩, fun j row' hj => ?_⟩⟩
      · rw [hs4.1, hs3.1]; exact hsz
      · exact hoff.trans ((Off.but hs3 (by omega)).trans (Off.but hs4 (by omega)))
      · show h4.get? _ = _
        rw [hs4.2 _ (ne_nat (by omega)), hs3.2 _ (ne_nat (by omega))]; exact hz'
      · show h4.get? _ = _
        rw [hs4.2 _ (ne_nat (by omega)), hs3.2 _ (ne_nat (by omega))]; exact hti'
      · rw [List.length_set]; exact hk1
      · rw [List.take_add_one, List.take_add_one, hcv, List.getElem?_set_self (by omega), ← hk3, List.take_set_of_le (Nat.le_refl _)]
      · have hj' := (List.getElem?_eq_some_iff.mp hj).1
        by_cases hjk : j = k
        · subst hjk
          rw [hrow] at hj
          cases hj
          rw [if_pos (Nat.lt_succ_self _)]
          obtain ⟨o, ho, r⟩ := hit3
          exact ⟨o, by rw [hs4.2 _ (ne_nat (by omega))]; exact ho, r⟩
        · obtain ⟨o, ho, r⟩ := hits j row' hj
          refine ⟨o, by rw [hs4.2 _ (ne_nat (by omega)), hs3.2 _ (fun z => hjk (Nat.add_left_cancel z))]; exact ho, ?_⟩
          by_cases hlt' : j < k
          · rw [if_pos hlt'] at r; rw [if_pos (show j < k + 1 by omega)]; exact r
          · rw [if_neg hlt'] at r; rw [if_neg (show ¬ j < k + 1 by omega)]; exact r
    case after =>
      rintro bb s' ⟨rfl, hh⟩
      obtain ⟨h', rfl, hsz, hoff, hz', hti', ⟨kept, hk1, hk2, hk3⟩, hits⟩ := hh.ex
      rw [List.take_of_length_le (by omega), List.take_of_length_le (by omega)] at hk3
      subst hk3
      dsimp only
      refine wpAny_bind (wpAny_seqItems (s := { s1 with heap := h' }) hk2 rfl ?_)
      dsimp only
      refine wpAny_bind (wpAny_newTuple (s := { s1 with heap := h' }) ?_ (by show kept.toArray.toList.length ≤ sizeLine; rw [List.toList_toArray]; exact Nat.le_trans (show kept.length ≤ 1000 by omega) (by decide)))
      dsimp only
      rw [hsz]
      refine wpAny_bind ?_
      unfold Builtin.SmallTypes.ownedTupleHandOut
      have hz6 : ZAt (h'.push { cls := .type "tuple", data := .seq kept.toArray.toList.toArray }) (b + rows.length + 2) (b + rows.length) (b + rows.length + 1) .ellipsis f1 := Heap.get?_push_of_some _ hz'
      refine wpAny_bind (wpAny_setField_rec (s := { s1 with heap := h'.push { cls := .type "tuple", data := .seq kept.toArray.toList.toArray } }) hz6 (by simp) fun h7 hz7 hs7 => ?_)
      replace hz7 : ZAt h7 (b + rows.length + 2) (b + rows.length) (b + rows.length + 1) (rawInt s1.heap.objs.size) f1 := hz7
      refine wpAny_setField_rec (s := { s1 with heap := h7 }) hz7 (by simp) fun h8 hz8 hs8 => ?_
      replace hz8 : ZAt h8 (b + rows.length + 2) (b + rows.length) (b + rows.length + 1) (rawInt s1.heap.objs.size) false := hz8
      have up : ∀ c o, c ≠ b + rows.length + 2 → h'.get? c = some o → h8.get? c = some o := fun c o c1 e => by
        rw [hs8.2 _ c1, hs7.2 _ c1]; exact Heap.get?_push_of_some _ e
      refine wpAny_pure ⟨_, rfl, hQ h8 _ false ⟨hz8, up _ _ (ne_nat (by omega)) hti', ⟨kept, hk1, up _ _ (ne_nat (by omega)) hk2⟩, fun k row hk => ?_⟩ (.inr ⟨_, rfl⟩) ?_ ?_ ?_⟩
      · have hk' := (List.getElem?_eq_some_iff.mp hk).1
        have := hits k row hk
        rw [if_pos hk'] at this
        obtain ⟨o, ho, r⟩ := this
        exact ⟨o, up _ _ (ne_nat (by omega)) ho, r⟩
      · show h8.get? _ = _
        rw [hs8.2 _ (ne_nat (by omega)), hs7.2 _ (ne_nat (by omega)), ← hsz]
        exact Heap.get?_push_size _ rfl
      · rw [hs8.1, hs7.1, Heap.size_push, hsz]
      · intro c o r e
        exact up c o (ne_nat (by omega)) (hoff c o r e)
  · -- it is not
    rw [if_neg Bool.false_ne_true]
    have hti1 : TAt h1 (b + rows.length) (itsOf b rows.length) := by
      show h1.get? _ = _
      rw [hs1.2 _ (ne_nat (by omega))]; exact st.ti
    try dsimp only
    refine wpAny_bind (wpAny_mono (MeetsSeq2.wpAny_forIn_array _ (fun rest bb s' => ∃ k, rest = (itsOf b rows.length).drop k ∧ bb = (none, (col.take k).toArray) ∧ ∃ h', s' = { s with heap := h' } ∧ h'.objs.size = s.heap.objs.size ∧ Off b rows.length s.heap h' ∧
        ZAt h' (b + rows.length + 2) (b + rows.length) (b + rows.length + 1) f0 true ∧ TAt h' (b + rows.length) (itsOf b rows.length) ∧ (∃ kept : List Value, kept.length = rows.length ∧ TAt h' (b + rows.length + 1) kept) ∧ ∀ (j : Nat) (row : Addr), rows[j]? = some row → h'.IsTupleIter (b + j) row (if j < k then i + 1 else i))
      (fun bb s' => bb = (none, col.toArray) ∧ ∃ h', s' = { s with heap := h' } ∧ h'.objs.size = s.heap.objs.size ∧ Off b rows.length s.heap h' ∧ St0 h' b rows f0 true (fun _ => i + 1)) ?turn ?fin _ _ ?start) ?after (fun _ _ x => x))
    case start =>
      obtain ⟨kept, hk1, hk2⟩ := st.to
      refine ⟨0, by simp, by simp, h1, rfl, hs1.1, Off.but hs1 (by omega), hz1, hti1, ⟨kept, hk1, ?_⟩, fun j row hj => ?_⟩
      · show h1.get? _ = _
        rw [hs1.2 _ (ne_nat (by omega))]; exact hk2
      · have hj' := (List.getElem?_eq_some_iff.mp hj).1
        obtain ⟨o, ho, r⟩ := st.it j row hj
        exact ⟨o, by rw [hs1.2 _ (ne_nat (by omega))]; exact ho, by simpa using r⟩
    case fin =>
      rintro bb s' ⟨k, e, rfl, h', rfl, e2, e3, e4, e5, e6, e7⟩
      have hk : rows.length ≤ k := by
        have := congrArg List.length e
        rw [List.length_drop, its_len] at this
        simp at this
        omega
      refine ⟨by rw [List.take_of_length_le (by omega)], h', rfl, e2, e3, e4, e5, e6, fun j row hj => ?_⟩
      have := e7 j row hj
      have hj' := (List.getElem?_eq_some_iff.mp hj).1
      rw [if_pos (show j < k by omega)] at this
      exact this
    case turn =>
      rintro x rest bb s' ⟨k, e, rfl, h', rfl, hsz, hoff, hz', hti', hto', hits⟩
      obtain ⟨e1, e2⟩ := cons_drop e
      have hk : k < rows.length := by have := (List.getElem?_eq_some_iff.mp e1).1; rw [its_len] at this; exact this
      rw [its_at hk] at e1
      cases e1
      obtain ⟨row, hrow⟩ : ∃ row, rows[k]? = some row := ⟨rows[k], List.getElem?_eq_getElem hk⟩
      obtain ⟨items, v, hI, hv, hcv⟩ := hx k row hrow
      have hit := hits k row hrow
      rw [if_neg (Nat.lt_irrefl _)] at hit
      dsimp only
      refine wpAny_bind (wpAny_holding ?_)
      show wpAny _ _ (Builtin.SmallTypes.nextOf (.ref (b + k)) >>= _) _ _ _
      refine wpAny_bind (nextOf_item (s := { s with heap := h' }) hit (tuple_off hoff (hr row (List.mem_of_getElem? hrow)) hI) hv fun h3 hit3 hs3 => wpAny_pure ?_)
      dsimp only
      refine wpAny_pure ⟨k + 1, e2, ?_, h3, rfl, ?_, ?_, ?_, ?_, ?_, fun j row' hj => ?_⟩
      · rw [List.take_add_one, hcv]; simp
      · rw [hs3.1]; exact hsz
      · exact hoff.trans (Off.but hs3 (by omega))
      · show h3.get? _ = _
        rw [hs3.2 _ (ne_nat (by omega))]; exact hz'
      · show h3.get? _ = _
        rw [hs3.2 _ (ne_nat (by omega))]; exact hti'
      · obtain ⟨kept, hk1, hk2⟩ := hto'
        exact ⟨kept, hk1, by show h3.get? _ = _; rw [hs3.2 _ (ne_nat (by omega))]; exact hk2⟩
      · have hj' := (List.getElem?_eq_some_iff.mp hj).1
        by_cases hjk : j = k
        · subst hjk
          rw [hrow] at hj
          cases hj
          rw [if_pos (Nat.lt_succ_self _)]
          exact hit3
        · obtain ⟨o, ho, r⟩ := hits j row' hj
          refine ⟨o, by rw [hs3.2 _ (fun z => hjk (Nat.add_left_cancel z))]; exact ho, ?_⟩
          by_cases hlt' : j < k
          · rw [if_pos hlt'] at r; rw [if_pos (show j < k + 1 by omega)]; exact r
          · rw [if_neg hlt'] at r; rw [if_neg (show ¬ j < k + 1 by omega)]; exact r
    case after =>
      rintro bb s' ⟨rfl, h', rfl, hsz, hoff, st'⟩
      dsimp only
      refine wpAny_bind (wpAny_newTuple (s := { s with heap := h' }) ?_ (by show col.toArray.toList.length ≤ sizeLine; rw [List.toList_toArray]; exact Nat.le_trans (show col.length ≤ 1000 by omega) (by decide)))
      dsimp only
      rw [hsz]
      have up : ∀ c o, h'.get? c = some o → (h'.push { cls := .type "tuple", data := .seq col.toArray.toList.toArray }).get? c = some o := fun c o e => Heap.get?_push_of_some _ e
      refine wpAny_pure ⟨_, rfl, hQ _ _ true ⟨up _ _ st'.zip, up _ _ st'.ti, ?_, fun k row hk => ?_⟩ hf ?_ ?_ ?_⟩
      · obtain ⟨kept, hk1, hk2⟩ := st'.to
        exact ⟨kept, hk1, up _ _ hk2⟩
      · obtain ⟨o, ho, r⟩ := st'.it k row hk
        exact ⟨o, up _ _ ho, r⟩
      · rw [← hsz]; exact Heap.get?_push_size _ rfl
      · rw [Heap.size_push, hsz]
      · intro c o r e
        exact up _ _ (hoff c o r e)
end
end ZS

namespace ZS
open PySem
section
variable {prog : Program} {w : World} {A : Around} {E : Value → Shared → Prop} {s : Shared}
theorem its_cons {b n : Nat} (h : 0 < n) : ∃ rest, itsOf b n = .ref (b + 0) :: rest := by
  cases e : itsOf b n with
  | nil => have := its_len b n; rw [e] at this; simp at this; omega
  | cons x rest =>
    have := its_at (b := b) h
    rw [e] at this
    simp at this
    exact ⟨rest, by rw [this]; rfl⟩
set_option maxHeartbeats 4000000 in
theorem next_end {b : Nat} {rows : List Addr} {f0 : Value} {f1 : Bool} {i : Nat} {row : Addr} {items : Array Value} {Q : Fin → Shared → Prop} (hh : A.handled = none) (st : St0 s.heap b rows f0 f1 (fun _ => i)) (hf : f0 = .none ∨ ∃ a : Nat, f0 = rawInt a)
    (hr0 : rows[0]? = some row) (hrb : row < b) (hI : s.heap.IsTuple row items) (hx : items[i]? = none)
    (hE : ∀ h' e, Off b rows.length s.heap h' → (∃ o, h'.get? e = some o ∧ o.cls = .type "StopIteration") → E (.ref e) { s with heap := h' }) :
    wpAny (model prog w) A (Builtin.«zip.__next__» ⟨[.ref (b + rows.length + 2)], []⟩) Q E s := by
  have hn : 0 < rows.length := (List.getElem?_eq_some_iff.mp hr0).1
  obtain ⟨rest, hits⟩ := its_cons (b := b) hn
  show wpAny _ _ (field (.ref (b + rows.length + 2)) 2 >>= _) _ _ _
  refine wpAny_bind (wpAny_field st.zip rfl (x := .bool false) rfl ?_)
  show wpAny _ _ (field (.ref (b + rows.length + 2)) 3 >>= _) _ _ _
  refine wpAny_bind (wpAny_field st.zip rfl (x := .ref (b + rows.length)) rfl ?_)
  refine wpAny_bind (wpAny_seqItems st.ti rfl ?_)
  have hem : (itsOf b rows.length).toArray.isEmpty = false := by rw [hits]; rfl
  dsimp only
  rw [if_neg (by rw [hem]; exact Bool.false_ne_true)]
  refine wpAny_bind (wpAny_mono (own_free st.zip hf) (fun r s1 h1 => ?_) (fun _ _ x => x))
  have hlt : b + rows.length + 2 < s.heap.objs.size := Heap.lt_size st.zip
  have hit := st.it 0 row hr0
  rcases h1 with ⟨rfl, rfl⟩ | ⟨rfl, h1, rfl, hz1, hs1⟩
  · rw [if_pos rfl]
    refine wpAny_bind (wpAny_rule ?_)
    refine wpAny_bind (wpAny_field st.zip rfl (x := .ref (b + rows.length + 1)) rfl ?_)
    refine wpAny_bind (wpAny_setField_rec st.zip (by simp) fun h2 hz2 hs2 => ?_)
    replace hz2 : ZAt h2 (b + rows.length + 2) (b + rows.length) (b + rows.length + 1) .ellipsis f1 := hz2
    have o2 : Off b rows.length s1.heap h2 := Off.but hs2 (by omega)
    have hit2 : h2.IsTupleIter (b + 0) row i := by
      obtain ⟨o, ho, r⟩ := hit
      exact ⟨o, by rw [hs2.2 _ (ne_nat (by omega))]; exact ho, r⟩
    refine wpAny_bind ?_
    have hz0 : (itsOf b rows.length).toArray.toList.zipIdx = (.ref (b + 0), 0) :: rest.zipIdx 1 := by rw [hits]; rfl
    rw [hz0, List.forIn_cons]
    refine wpAny_bind (wpAny_bind (wpAny_onRaise ?_))
    show wpAny _ _ (Builtin.SmallTypes.nextOf (.ref (b + 0)) >>= _) _ _ _
    refine wpAny_bind (RZ.nextOf_tuple_end (s := { s1 with heap := h2 }) hh hit2 (tuple_off o2 hrb hI) hx fun h3 e hs3 he => ?_)
    obtain ⟨oe, hoe, hce⟩ := he
    have hz3 : ZAt h3 (b + rows.length + 2) (b + rows.length) (b + rows.length + 1) .ellipsis f1 := hs3 _ _ (ne_nat (by omega)) hz2
    have hez : e ≠ b + rows.length + 2 := fun x => by subst x; rw [hz3] at hoe; cases hoe; simp at hce
    refine wpAny_setField_rec (s := { s1 with heap := h3 }) hz3 (by simp) fun h4 _ hs4 => hE h4 e (fun c o r x => ?_) ⟨oe, by rw [hs4.2 _ hez]; exact hoe, hce⟩
    rw [hs4.2 _ (ne_nat (by omega))]
    exact hs3 _ _ (ne_nat (by omega)) (o2 c o r x)
  · rw [if_neg Bool.false_ne_true]
    have o1 : Off b rows.length s.heap h1 := Off.but hs1 (by omega)
    have hit1 : h1.IsTupleIter (b + 0) row i := by
      obtain ⟨o, ho, r⟩ := hit
      exact ⟨o, by rw [hs1.2 _ (ne_nat (by omega))]; exact ho, r⟩
    try dsimp only
    refine wpAny_bind ?_
    rw [← Array.forIn_toList, List.toList_toArray, hits, List.forIn_cons]
    refine wpAny_bind (wpAny_bind (wpAny_holding ?_))
    show wpAny _ _ (Builtin.SmallTypes.nextOf (.ref (b + 0)) >>= _) _ _ _
    refine wpAny_bind (RZ.nextOf_tuple_end (s := { s with heap := h1 }) hh hit1 (tuple_off o1 hrb hI) hx fun h3 e hs3 he => hE h3 e (fun c o r x => ?_) he)
    exact hs3 _ _ (ne_nat (by omega)) (o1 c o r x)
theorem pyNext_item {b : Nat} {rows : List Addr} {f0 : Value} {f1 : Bool} {i : Nat} {col : List Value} {Q : Option Value → Shared → Prop} (st : St0 s.heap b rows f0 f1 (fun _ => i)) (hf : f0 = .none ∨ ∃ a : Nat, f0 = rawInt a) (hn : 0 < rows.length) (hn2 : rows.length ≤ 1000)
    (hr : ∀ row ∈ rows, row < b) (hc : col.length = rows.length) (hx : ∀ (k : Nat) (row : Addr), rows[k]? = some row → ∃ (items : Array Value) (x : Value), s.heap.IsTuple row items ∧ items[i]? = some x ∧ col[k]? = some x)
    (hQ : ∀ h' f0' f1', St0 h' b rows f0' f1' (fun _ => i + 1) → (f0' = .none ∨ ∃ a : Nat, f0' = rawInt a) → TAt h' s.heap.objs.size col → h'.objs.size = s.heap.objs.size + 1 → Off b rows.length s.heap h' → Q (some (.ref s.heap.objs.size)) { s with heap := h' }) :
    wpAny (model prog w) A (pyNext (.ref (b + rows.length + 2))) Q E s := by
  have hT : s.TypeIs (.ref (b + rows.length + 2)) "zip" := ⟨_, st.zip, rfl⟩
  unfold pyNext
  exact wpAny_bind (wpAny_attempt (wpAny_callSpecial?_slot (name := Str.ofString "__next__") hT F.slot_zip_next
    (wpAny_call_entry F.slot_zip_next hT F.entry_zip_next
      (next_item st hf hn hn2 hr hc hx fun h' a b' a1 a2 a3 a4 a5 => wpAny_pure (hQ h' a b' a1 a2 a3 a4 a5)) (F.args_zip_next_1 _))))
theorem pyNext_end {b : Nat} {rows : List Addr} {f0 : Value} {f1 : Bool} {i : Nat} {row : Addr} {items : Array Value} {Q : Option Value → Shared → Prop} (hh : A.handled = none) (st : St0 s.heap b rows f0 f1 (fun _ => i)) (hf : f0 = .none ∨ ∃ a : Nat, f0 = rawInt a)
    (hr0 : rows[0]? = some row) (hrb : row < b) (hI : s.heap.IsTuple row items) (hx : items[i]? = none) (hQ : ∀ h', Off b rows.length s.heap h' → Q none { s with heap := h' }) :
    wpAny (model prog w) A (pyNext (.ref (b + rows.length + 2))) Q E s := by
  have hT : s.TypeIs (.ref (b + rows.length + 2)) "zip" := ⟨_, st.zip, rfl⟩
  unfold pyNext
  refine wpAny_bind (wpAny_attempt (wpAny_callSpecial?_slot (name := Str.ofString "__next__") hT F.slot_zip_next
    (wpAny_call_entry F.slot_zip_next hT F.entry_zip_next (next_end hh st hf hr0 hrb hI hx fun h' e hk he => ?_) (F.args_zip_next_1 _))))
  obtain ⟨o, ho, hc⟩ := he
  refine wpAny_bind (wpAny_isInstance (T := "StopIteration") (b := true) ⟨o, ho, hc⟩ isSubtype_stop ?_)
  exact wpAny_pure (hQ _ hk)
theorem pyIter_zip {z TI TO : Addr} {f0 : Value} {f1 : Bool} {Q : Value → Shared → Prop} (hz : ZAt s.heap z TI TO f0 f1) (h : Q (.ref z) s) : wpAny (model prog w) A (pyIter (.ref z)) Q E s := by
  have hT : s.TypeIs (.ref z) "zip" := ⟨_, hz, rfl⟩
  refine wpAny_pyIter_slot hT F.slot_zip_iter (wpAny_call_entry F.slot_zip_iter hT F.entry_zip_iter ?_ (F.args_zip_iter_1 _))
  show wpAny _ _ (ret (.ref z)) _ _ s
  exact wpAny_pure ⟨_, rfl, "zip", _, hT, F.slot_zip_next.lookup, h⟩
/-! making it -/
theorem typeCall (as : List Value) (h : as.length ≤ 7) : checkTypeCall "zip" ⟨as, []⟩ = pure () := by
  match as, h with
  | [], _ => kernel_rfl
  | [a], _ => kernel_rfl
  | [a, b], _ => kernel_rfl
  | [a, b, c], _ => kernel_rfl
  | [a, b, c, d], _ => kernel_rfl
  | [a, b, c, d, e], _ => kernel_rfl
  | [a, b, c, d, e, f], _ => kernel_rfl
  | [a, b, c, d, e, f, g], _ => kernel_rfl
  | _ :: _ :: _ :: _ :: _ :: _ :: _ :: _ :: _, h => simp at h
theorem newCall (as : List Value) (h : as.length ≤ 7) : checkBuiltinCall "zip.__new__" ⟨.type "zip" :: as, []⟩ = pure () := by
  match as, h with
  | [], _ => kernel_rfl
  | [a], _ => kernel_rfl
  | [a, b], _ => kernel_rfl
  | [a, b, c], _ => kernel_rfl
  | [a, b, c, d], _ => kernel_rfl
  | [a, b, c, d, e], _ => kernel_rfl
  | [a, b, c, d, e, f], _ => kernel_rfl
  | [a, b, c, d, e, f, g], _ => kernel_rfl
  | _ :: _ :: _ :: _ :: _ :: _ :: _ :: _ :: _, h => simp at h
theorem initArgs (o : Value) (as : List Value) (h : as.length ≤ 7) : argsOk "object.__init__" ⟨o :: as, []⟩ := by
  unfold argsOk
  rw [signature?_of (id := "object.__init__") (n := ['_', '_', 't', 'i', 'n', 'i', '_', '_']) (o := ['t', 'c', 'e', 'j', 'b', 'o']) (by kernel_rfl) F.owner_object]
  match as, h with
  | [], _ => kernel_rfl
  | [a], _ => kernel_rfl
  | [a, b], _ => kernel_rfl
  | [a, b, c], _ => kernel_rfl
  | [a, b, c, d], _ => kernel_rfl
  | [a, b, c, d, e], _ => kernel_rfl
  | [a, b, c, d, e, f], _ => kernel_rfl
  | [a, b, c, d, e, f, g], _ => kernel_rfl
  | _ :: _ :: _ :: _ :: _ :: _ :: _ :: _ :: _, h => simp at h
end
end ZS

namespace ZS
open PySem
def pushIts : Heap → List Addr → Heap
  | h, [] => h
  | h, l :: ls => pushIts (h.push { cls := .type "tuple_iterator", data := .fields #[.ref l, .int 0 0] }) ls
theorem push_size : ∀ (ls : List Addr) (h : Heap), (pushIts h ls).objs.size = h.objs.size + ls.length
  | [], h => rfl
  | l :: ls, h => by rw [pushIts, push_size ls, Heap.size_push, List.length_cons]; omega
theorem push_old : ∀ (ls : List Addr) (h : Heap) {c : Addr} {o : Obj}, h.get? c = some o → (pushIts h ls).get? c = some o
  | [], h, _, _, e => e
  | l :: ls, h, c, o, e => push_old ls _ (Heap.get?_push_of_some _ e)
theorem push_it : ∀ (ls : List Addr) (h : Heap) (k : Nat) (row : Addr), ls[k]? = some row → (pushIts h ls).IsTupleIter (h.objs.size + k) row 0
  | [], h, k, row, e => by simp at e
  | l :: ls, h, 0, row, e => by
    simp at e
    subst e
    exact ⟨_, push_old ls _ (Heap.get?_push_size _ rfl), rfl, rfl⟩
  | l :: ls, h, k + 1, row, e => by
    have := push_it ls (h.push { cls := .type "tuple_iterator", data := .fields #[.ref l, .int 0 0] }) k row (by simpa using e)
    rw [Heap.size_push] at this
    rw [show h.objs.size + (k + 1) = h.objs.size + 1 + k by omega]
    exact this
theorem push_snoc : ∀ (ls : List Addr) (h : Heap) (l : Addr), pushIts h (ls ++ [l]) = (pushIts h ls).push { cls := .type "tuple_iterator", data := .fields #[.ref l, .int 0 0] }
  | [], h, l => rfl
  | x :: ls, h, l => by rw [List.cons_append, pushIts, push_snoc ls, pushIts]
def Made (h : Heap) (rows : List Addr) (h' : Heap) : Prop := St0 h' h.objs.size rows .none false (fun _ => 0) ∧ ∀ c o, h.get? c = some o → h'.get? c = some o
set_option maxHeartbeats 4000000 in
theorem meets_new (rows : List Addr) (hn : rows.length ≤ 7) :
    Meets (Builtin.«zip.__new__» ⟨.type "zip" :: rows.map Value.ref, []⟩) (fun _ R s => (∀ row ∈ rows, ∃ items, s.heap.IsTuple row items) ∧
      ∀ h', Made s.heap rows h' → R (.ok (.ret (.ref (s.heap.objs.size + rows.length + 2)))) { s with heap := h' }) :=
  .of_wp fun prog w A R s h => by
    obtain ⟨hp, g, d, tk, os⟩ := s
    obtain ⟨ht, h⟩ := h
    have hsub := sub_zip
    wp_walk
    show wpAny (model prog w) A.in1 (forIn (rows.map Value.ref) (#[] : Array Value) (fun x its => holding its.toList (pyIter x) >>= fun v => pure (ForInStep.yield (its.push v)))) _ _ _
    refine wpAny_mono (wpAny_forIn_list _ (fun rest b s' => ∃ k, k ≤ rows.length ∧ rest = (rows.map Value.ref).drop k ∧ b = (itsOf hp.objs.size k).toArray ∧ s' = ⟨pushIts hp (rows.take k), g, d, tk, os⟩)
      (fun b s' => b = (itsOf hp.objs.size rows.length).toArray ∧ s' = ⟨pushIts hp rows, g, d, tk, os⟩) ?turn ?fin _ _ ?start) ?after (fun _ _ x => x)
    case start => exact ⟨0, Nat.zero_le _, rfl, rfl, by rw [List.take_zero]; rfl⟩
    case fin =>
      rintro b s' ⟨k, hk, e, rfl, rfl⟩
      have hk2 : rows.length ≤ k := by
        have := congrArg List.length e
        rw [List.length_drop, List.length_map] at this
        simp at this
        omega
      obtain rfl : k = rows.length := by omega
      exact ⟨rfl, by rw [List.take_length]⟩
    case turn =>
      rintro x rest b s' ⟨k, hk, e, rfl, rfl⟩
      obtain ⟨e1, e2⟩ := cons_drop e
      rw [List.getElem?_map] at e1
      obtain ⟨row, hrow, rfl⟩ := Option.map_eq_some_iff.mp e1
      obtain ⟨items, hI⟩ := ht row (List.mem_of_getElem? hrow)
      have hk2 := (List.getElem?_eq_some_iff.mp hrow).1
      have hI2 : (pushIts hp (rows.take k)).IsTuple row items := by
        obtain ⟨o, ho, r⟩ := hI
        exact ⟨o, push_old _ _ ho, r⟩
      refine wpAny_bind (wpAny_holding (wpAny_pyIter_tuple (s := ⟨pushIts hp (rows.take k), g, d, tk, os⟩) hI2 (wpAny_pure ⟨k + 1, by omega, e2, ?_, ?_⟩)))
      · show (itsOf hp.objs.size k).toArray.push (.ref (pushIts hp (rows.take k)).objs.size) = _
        rw [push_size, List.length_take, Nat.min_eq_left (by omega)]
        unfold itsOf
        rw [List.range_succ, List.map_append]
        simp
      · rw [List.take_add_one, hrow, Option.toList_some, push_snoc]
    case after =>
      rintro b s' ⟨rfl, rfl⟩
      have hz : ∀ l : List Value, l.length ≤ 7 → l.length ≤ sizeLine := fun l h => Nat.le_trans h (by decide)
      refine wpAny_pure ?_
      refine wpAny_bind (wpAny_newTuple (s := ⟨pushIts hp rows, g, d, tk, os⟩) ?_ (hz _ (by rw [List.toList_toArray, its_len]; exact hn)))
      refine wpAny_bind (wpAny_newTuple (s := ⟨(pushIts hp rows).push _, g, d, tk, os⟩) ?_ (hz _ (by rw [List.length_map, List.toList_toArray, its_len]; exact hn)))
      refine wpAny_bind (m := Builtin.SmallTypes.newRecord _ _) ?_
      unfold Builtin.SmallTypes.newRecord
      refine wpAny_newObj_type (s := ⟨((pushIts hp rows).push _).push _, g, d, tk, os⟩) ?_ (by show 5 ≤ sizeLine + 2; decide)
      have e1 : (pushIts hp rows).objs.size = hp.objs.size + rows.length := push_size rows hp
      have up : ∀ c o, hp.get? c = some o → (((pushIts hp rows).push { cls := .type "tuple", data := .seq (itsOf hp.objs.size rows.length).toArray.toList.toArray }).push { cls := .type "tuple", data := .seq ((itsOf hp.objs.size rows.length).toArray.toList.map fun _ => Value.none).toArray }).get? c = some o :=
        fun c o e => Heap.get?_push_of_some _ (Heap.get?_push_of_some _ (push_old _ _ e))
      have upI : ∀ c o, (pushIts hp rows).get? c = some o → (((pushIts hp rows).push { cls := .type "tuple", data := .seq (itsOf hp.objs.size rows.length).toArray.toList.toArray }).push { cls := .type "tuple", data := .seq ((itsOf hp.objs.size rows.length).toArray.toList.map fun _ => Value.none).toArray }).get? c = some o :=
        fun c o e => Heap.get?_push_of_some _ (Heap.get?_push_of_some _ e)
      dsimp only [Builtin.SmallTypes.ownedTupleFields, List.cons_append, List.nil_append]
      rw [Heap.size_push, Heap.size_push, e1]
      refine wpAny_pure ⟨_, rfl, ?_⟩
      have e2 : hp.objs.size + rows.length + 1 + 1 = hp.objs.size + rows.length + 2 := rfl
      rw [e2]
      refine h _ ⟨⟨?_, ?_, ⟨(itsOf hp.objs.size rows.length).map fun _ => Value.none, by rw [List.length_map, its_len], ?_⟩, fun k row hk => ?_⟩, fun c o e => Heap.get?_push_of_some _ (up c o e)⟩
      · show Heap.get? _ _ = _
        have e3 : (((pushIts hp rows).push { cls := .type "tuple", data := .seq (itsOf hp.objs.size rows.length).toArray.toList.toArray }).push { cls := .type "tuple", data := .seq ((itsOf hp.objs.size rows.length).toArray.toList.map fun _ => Value.none).toArray }).objs.size = hp.objs.size + rows.length + 2 := by rw [Heap.size_push, Heap.size_push, e1]
        rw [← e3]
        exact Heap.get?_push_size _ rfl
      · show Heap.get? _ _ = _
        refine Heap.get?_push_of_some _ (Heap.get?_push_of_some _ ?_)
        rw [← e1]
        exact Heap.get?_push_size _ rfl
      · show Heap.get? _ _ = _
        refine Heap.get?_push_of_some _ ?_
        have e4 : ((pushIts hp rows).push { cls := .type "tuple", data := .seq (itsOf hp.objs.size rows.length).toArray.toList.toArray }).objs.size = hp.objs.size + rows.length + 1 := by rw [Heap.size_push, e1]
        rw [← e4]
        exact Heap.get?_push_size _ rfl
      · obtain ⟨o, ho, r⟩ := push_it rows hp k row hk
        exact ⟨o, Heap.get?_push_of_some _ (upI _ _ ho), r⟩
section
variable {prog : Program} {w : World} {A : Around} {E : Value → Shared → Prop} {s : Shared}
theorem call_zipN {rows : List Addr} {Q : Value → Shared → Prop} (hn : rows.length ≤ 7) (ht : ∀ row ∈ rows, ∃ items, s.heap.IsTuple row items)
    (h : ∀ h', Made s.heap rows h' → Q (.ref (s.heap.objs.size + rows.length + 2)) { s with heap := h' }) : wpAny (model prog w) A (call (.type "zip") (rows.map Value.ref)) Q E s := by
  refine callType_new F.called_zip (by decide) (typeCall _ (by rw [List.length_map]; exact hn)) (newCall _ (by rw [List.length_map]; exact hn)) (fun obj => initArgs obj _ (by rw [List.length_map]; exact hn)) F.entry_zip_new
    (meets_new rows hn) ⟨ht, fun h' m => ?_⟩
  exact ⟨⟨_, m.1.zip, rfl⟩, h h' m⟩
end
end ZS

namespace Pv
open PySem PySem.Spec PyProof.Rows L2
/-- the tuples at rows as they stand at each turn, their items at the turn's place in a new tuple -/
def ItS (K : PySem.W.Frag) (rows : List Addr) : It :=
  ⟨fun i H => ∀ row ∈ rows, ∃ xs x, SqT K H row xs ∧ xs[i]? = some x,
    fun i H v H' => ∃ (T : Addr) (col : List V), v = .ref T ∧ H T = none ∧ H' = upd H T (.tup col) ∧ col.length = rows.length ∧ ∀ (k : Nat) (row : Addr), rows[k]? = some row → ∀ xs, SqT K H row xs → col[k]? = xs[i]?,
    fun i H => ∃ row xs, rows[0]? = some row ∧ SqT K H row xs ∧ xs.length ≤ i⟩
def ownZ (b n : Nat) : List Addr := (List.range (n + 3)).map fun k => b + k
theorem ownZ_mem {b n c : Nat} : c ∈ ownZ b n ↔ b ≤ c ∧ c ≤ b + n + 2 := by
  unfold ownZ
  rw [List.mem_map]
  constructor
  · rintro ⟨k, hk, rfl⟩
    rw [List.mem_range] at hk
    omega
  · rintro ⟨h1, h2⟩
    exact ⟨c - b, by rw [List.mem_range]; omega, by omega⟩
theorem cols_of {X : Cx} {pins : List (Addr × Obj)} {σ : L2.St} {H : Hp} {s : Shared} {i : Nat} (I : Inv X pins σ H s) : ∀ {rows : List Addr}, (∀ row ∈ rows, ∃ xs x, SqT X.K H row xs ∧ xs[i]? = some x) →
    ∃ (cv : List V) (cu : List Value), Vals cv cu ∧ cv.length = rows.length ∧ cu.length = rows.length ∧ ∀ (k : Nat) (row : Addr), rows[k]? = some row →
      (∀ xs, SqT X.K H row xs → cv[k]? = xs[i]?) ∧ ∃ (items : Array Value) (u : Value), s.heap.IsTuple row items ∧ items[i]? = some u ∧ cu[k]? = some u
  | [], _ => ⟨[], [], .nil, rfl, rfl, fun k row h => by simp at h⟩
  | r :: rows, h => by
    obtain ⟨cv, cu, h1, h2, h3, h4⟩ := cols_of I (rows := rows) (fun row hr => h row (by simp [hr]))
    obtain ⟨xs, x, hT, hx⟩ := h r (by simp)
    obtain ⟨its, rv, p, _⟩ := I.tuple hT
    obtain ⟨u, hu, ru⟩ := rv.get hx
    refine ⟨x :: cv, u :: cu, .cons ru h1, by simp [h2], by simp [h3], fun k row hk => ?_⟩
    cases k with
    | zero =>
      simp at hk
      subst hk
      exact ⟨fun l hl => by rw [I.tuple_inj hl hT, hx]; rfl, its.toArray, u, p, by simpa using hu, rfl⟩
    | succ k =>
      have := h4 k row (by simpa using hk)
      simpa using this
theorem turn_zipS {P : Program} {w : World} {K : PySem.W.Frag} {y : Str} {py : Pos} {b : Nat} {rows : List Addr} (hn : 0 < rows.length) (hn2 : rows.length ≤ 7) (hb : ∀ row ∈ rows, row < b) :
    Turn P w K (.Name y py) (ItS K rows) (ownZ b rows.length) (b + rows.length + 2) (fun i h => ∃ f0 f1, ZS.St0 h b rows f0 f1 (fun _ => i) ∧ (f0 = .none ∨ ∃ a : Nat, f0 = rawInt a)) where
  mem := ownZ_mem.mpr (by omega)
  obj := fun i h st c hc => by
    obtain ⟨f0, f1, st, _⟩ := st
    obtain ⟨k, hk, rfl⟩ := List.mem_map.mp hc
    rw [List.mem_range] at hk
    by_cases h1 : k < rows.length
    · obtain ⟨o, ho, _, hd⟩ := st.it k rows[k] (List.getElem?_eq_getElem h1)
      exact ⟨o, ho, fun v q => by rw [hd] at q; cases q⟩
    · have h3 : ∀ k n : Nat, k < n + 3 → ¬ k < n → k = n ∨ k = n + 1 ∨ k = n + 2 := fun k n h1 h2 => by omega
      obtain rfl | rfl | rfl := h3 k rows.length hk h1
      · exact ⟨_, st.ti, fun v q => nomatch q⟩
      · obtain ⟨kept, _, e⟩ := st.to
        exact ⟨_, e, fun v q => nomatch q⟩
      · exact ⟨_, st.zip, fun v q => nomatch q⟩
  keep := fun i h h' st k => by
    obtain ⟨f0, f1, st, hf⟩ := st
    have k' : ∀ c, b ≤ c → c ≤ b + rows.length + 2 → ∀ o, h.get? c = some o → h'.get? c = some o := fun c h1 h2 o e => k c (ownZ_mem.mpr ⟨h1, h2⟩) o e
    refine ⟨f0, f1, ⟨k' _ (by omega) (by omega) _ st.zip, k' _ (by omega) (by omega) _ st.ti, ?_, fun j row hj => ?_⟩, hf⟩
    · obtain ⟨kept, h1, e⟩ := st.to
      exact ⟨kept, h1, k' _ (by omega) (by omega) _ e⟩
    · have hj' := (List.getElem?_eq_some_iff.mp hj).1
      obtain ⟨o, ho, r⟩ := st.it j row hj
      exact ⟨o, k' _ (by omega) (by omega) _ ho, r⟩
  item := by
    intro X hP hw hK hc i pins s σ H E I hf st hg
    subst hP hw hK
    obtain ⟨f0, f1, st, hfr⟩ := st
    obtain ⟨cv, cu, h1, h2, h3, h4⟩ := cols_of I hg
    have hlt : b + rows.length + 2 < s.heap.objs.size := Heap.lt_size st.zip
    refine ZS.pyNext_item st hfr hn (by omega) hb h3 (fun k row hk => (h4 k row hk).2) fun h' f0' f1' st' hf' hT hsz hoff => ?_
    refine ⟨_, rfl, ?_⟩
    unfold letOwnedTupleGo
    refine wpAny_pure ?_
    have new : ObjOk X.prog X.w (upd H s.heap.objs.size (.tup cv)) h' s.heap.objs.size (.tup cv) :=
      ⟨Nat.le_trans (show cv.length ≤ 7 by omega) (by decide), cu, h1, ⟨_, hT, rfl, _, rfl⟩⟩
    have I1 : Inv X pins σ (upd H s.heap.objs.size (.tup cv)) { s with heap := h' } :=
      I.turnedNew (t' := s.toks) (ch := ownZ b rows.length) (fun c o hb' q => hoff c o (by rw [ownZ_mem] at hb'; omega) q) hf (Nat.le_refl _) new
    refine ⟨.ref s.heap.objs.size, _, I1, rfl, ⟨_, cv, rfl, I.hok.fresh (Nat.le_refl _), rfl, h2, fun k row hk => (h4 k row hk).1⟩, ⟨f0', f1', st', hf'⟩, fun c hcm => ?_⟩
    have hcm2 := hcm
    obtain ⟨k, hk, rfl⟩ := List.mem_map.mp hcm2
    rw [List.mem_range] at hk
    rw [upd_ne (Nat.ne_of_lt (show b + k < s.heap.objs.size by omega))]
    exact (hf _ hcm).1
  done := by
    intro X hP hw hK hc i pins s σ H E I hf st hg
    subst hP hw hK
    obtain ⟨f0, f1, st, hfr⟩ := st
    obtain ⟨row, xs, hr0, hT, hl⟩ := hg
    obtain ⟨its, rv, p, _⟩ := I.tuple hT
    have l1 := rv.length
    exact ZS.pyNext_end (I.ok.hd hc) st hfr hr0 (hb row (List.mem_of_getElem? hr0)) p (by simp; omega) fun h' hoff => ⟨rfl, I.turnedL (t' := s.toks) (ch := ownZ b rows.length) (fun c o hb' q => hoff c o (by rw [ownZ_mem] at hb'; omega) q) hf⟩
  self := fun A i s Q E st h => by
    obtain ⟨f0, f1, st, _⟩ := st
    exact ZS.pyIter_zip st.zip h
def iZipS (K : PySem.W.Frag) (te : TE) : TI := fun σ H R => te σ H fun x H1 => ∃ (a : Addr) (rows : List Addr), x = .ref a ∧ SqT K H1 a (rows.map V.ref) ∧ 0 < rows.length ∧ rows.length ≤ 7 ∧ (∀ row ∈ rows, ∃ xs, SqT K H1 row xs) ∧ R (ItS K rows) H1
theorem vals_refs : ∀ {rows : List Addr} {us : List Value}, Vals (rows.map V.ref) us → us = rows.map Value.ref
  | [], _, h => by cases h; rfl
  | r :: rows, _, h => by
    cases h with
    | cons h1 h2 => cases h1; rw [vals_refs h2]; rfl
theorem pi_zipS {X : Cx} {e : Expr} {te : TE} {p pos sp_ py : Pos} {y : Str} (hg : Gl X "zip") (hm : X.mg "zip" = none) (he : PE X e te)
    (hst : starEach [.Starred e sp_] X.env = [(true, eval e X.env)] := by rfl) :
    PI X (.Name y py) (.Call (.Name "zip" p) [.Starred e sp_] [] pos) (iZipS X.K te) := by
  refine ⟨fun pins s σ H R I h => ?_⟩
  refine Call_ (ld_blt I hg hm PyProof.Rows.boot_zip ?_)
  rw [hst]
  refine PySem.W.ks_call (P := fun _ => True) rfl (fun h _ => ⟨.machine, .inr (.inl rfl), fun A Q E s _ q => wpAny_pure q⟩) (PySem.W.ks_lone (thn (he.run pins s σ H _ I h) fun v s1 ⟨x, H1, I1, rx, a, rows, ex, hT, hn, hn2, hrows, q⟩ => ?_))
  subst ex
  obtain rfl : v = Value.ref a := rx
  refine StX.star_any I1 (.inl hT) fun us s2 I2 rv => ⟨trivial, ?_⟩
  rw [vals_refs rv]
  have hlt : ∀ row ∈ rows, row < s2.heap.objs.size ∧ ∃ items, s2.heap.IsTuple row items := fun row hr => by
    obtain ⟨xs, hx⟩ := hrows row hr
    obtain ⟨its, _, p1, _⟩ := I2.tuple hx
    obtain ⟨o, ho, _⟩ := id p1
    exact ⟨Heap.lt_size ho, its.toArray, p1⟩
  refine ZS.call_zipN hn2 (fun row hr => (hlt row hr).2) fun h' m => ?_
  refine ZS.pyIter_zip (s := { s2 with heap := h' }) m.1.zip ?_
  have I3 : Inv X pins σ H1 { s2 with heap := h' } := I2.kept (t' := s2.toks) m.2
  refine ⟨s2.heap.objs.size + rows.length + 2, ownZ s2.heap.objs.size rows.length, _, _, H1, rfl, I3, turn_zipS hn hn2 (fun row hr => (hlt row hr).1), ⟨.none, false, m.1, .inl rfl⟩, fun c hcm => ?_, q⟩
  have hle := (ownZ_mem.mp hcm).1
  exact I2.fpOk hle (I2.hok.fresh hle)
theorem walk_zipS {K : PySem.W.Frag} {rows : List Addr} {xss : List (List V)} {n : Nat} (hn : 0 < rows.length) (hl : xss.length = rows.length) (hx : ∀ xs ∈ xss, xs.length = n) :
    Walk (ItS K rows) n (fun H => ∀ (k : Nat) (row : Addr) (xs : List V), rows[k]? = some row → xss[k]? = some xs → SqT K H row xs)
      (fun i H v H' => ∃ (T : Addr) (col : List V), v = .ref T ∧ H T = none ∧ H' = upd H T (.tup col) ∧ col.length = rows.length ∧ ∀ (k : Nat) (xs : List V), xss[k]? = some xs → col[k]? = xs[i]?) := by
  have hat : ∀ (k : Nat), k < rows.length → ∃ xs, xss[k]? = some xs ∧ xs ∈ xss := fun k hk => ⟨xss[k]'(by omega), List.getElem?_eq_getElem (by omega), List.getElem_mem _⟩
  constructor
  · rintro i H hi q row hr
    obtain ⟨k, hk, e⟩ := List.getElem_of_mem hr
    obtain ⟨xs, h1, h2⟩ := hat k hk
    have := hx xs h2
    exact ⟨xs, xs[i]'(by omega), q k row xs (by rw [List.getElem?_eq_getElem hk, e]) h1, List.getElem?_eq_getElem _⟩
  · rintro H q
    obtain ⟨xs, h1, h2⟩ := hat 0 hn
    have := hx xs h2
    exact ⟨rows[0], xs, List.getElem?_eq_getElem hn, q 0 _ xs (List.getElem?_eq_getElem hn) h1, by omega⟩
  · rintro i H v H' _ q ⟨T, col, h1, h2, h3, h4, h5⟩
    refine ⟨T, col, h1, h2, h3, h4, fun k xs hk => ?_⟩
    have hk' : k < rows.length := by have := (List.getElem?_eq_some_iff.mp hk).1; omega
    exact h5 k _ (List.getElem?_eq_getElem hk') xs (q k _ xs (List.getElem?_eq_getElem hk') hk)
end Pv

set_option maxHeartbeats 1000000
/-! a list comprehension of three clauses -/
namespace Pv
open PySem PySem.Spec PyProof.Rows L2
section
variable {X : Cx} {s3 : Shared} {H3 : Hp} {scope : Scope} {ce : Env} {fp0 : List Addr}
abbrev BodyT := L2.St → Hp → (Hp → Prop) → Prop
/-- what one clause's loop wants: each turn the target's store, the tests, then the body, from which the next turn is reached -/
def tTurns (g : TG) (tt : TT) (bt : BodyT) (vs : List Nat) (J : It) (σ : L2.St) (H0 : Hp) (Nout : Hp → Prop) : Prop := ∃ W : Nat → Nat → Hp → Prop, (∃ m, W 0 m H0) ∧ ∀ i m H, W i m H →
  (J.stop i H ∧ Nout H) ∨ (J.go i H ∧ ∃ Nx : Hp → Prop, (∀ H', Nx H' → ∃ m', m' < m ∧ W (i + 1) m' H') ∧ ∀ x H', J.yld i H x H' → g x (wipe σ vs) H' fun σ2 H2 => wipe σ2 vs = wipe σ vs ∧ tt σ2 H2 fun b H3 => if b = true then bt σ2 H3 Nx else Nx H3)
def BodyOk (X : Cx) (s3 : Shared) (H3 : Hp) (scope : Scope) (ce : Env) (fp0 : List Addr) (vs : List Nat) (BODY : Sem Unit) (bt : BodyT) : Prop :=
  ∀ (pins : List (Addr × Obj)) (σ : L2.St) (s : Shared) (H : Hp) (Nx : Hp → Prop), Inv (X.blk s3 H3 scope ce fp0) pins σ H s → bt σ H Nx →
    wpAny (model X.prog X.w) X.A BODY (fun _ s' => ∃ H' σ', Inv (X.blk s3 H3 scope ce fp0) pins σ' H' s' ∧ σ'.length = σ.length ∧ (∀ (j : Nat) v, (wipe σ vs)[j]? = some (some v) → σ'[j]? = some (some v)) ∧ Nx H') (fun _ _ => False) s
theorem clause_loop {elt t : Expr} {gens : List Comprehension} {sc : Scope} {pos : Pos} {d : Nat} {p0 : Pos} {ifs : List Expr} {BODY : Sem Unit} {it D : Addr} {pins : List (Addr × Obj)} {σ : L2.St} {fp : List Addr} {tn : Nat → Heap → Prop} {J : It} {g : TG} {tt : TT} {bt : BodyT} {R : Result → Shared → Prop} {vs : List Nat} {Nout : Hp → Prop} {H0 : Hp} {s0 : Shared}
    (hc : X.calm = true)
    (heq : compTurn (.ListComp elt gens sc pos) d (.ref it) (.ref D) ce = (do
      standAt p0
      match ← pyNext (.ref it) with
      | none => pure (.done .next)
      | some v =>
        letOwnedTupleGo t (.ref it) v
        assign t ce v
        let mut ok := true
        for c in ifs do
          if ok then ok ← isTrue c ce (eval c ce)
        if ok then BODY
        again (.compLoop (.ListComp elt gens sc pos) d (.ref it) (.ref D) ce)))
    (T : Turn X.prog X.w X.K t J fp it tn) (hg : PG (X.blk s3 H3 scope ce fp0) t g) (ht : PTs (X.blk s3 H3 scope ce fp0) ifs tt) (body : BodyOk X s3 H3 scope ce fp0 vs BODY bt)
    (stat : ∀ (σ' : L2.St) (H' : Hp) (s' : Shared), Inv (X.blk s3 H3 scope ce fp0) pins σ' H' s' → (∀ b ∈ fp, H' b = none) → ∀ b ∈ fp, FpOk (X.blk s3 H3 scope ce fp0) pins H' b)
    (turns : tTurns g tt bt vs J σ H0 Nout) (I : Inv (X.blk s3 H3 scope ce fp0) pins (wipe σ vs) H0 s0) (st : tn 0 s0.heap) (n0 : ∀ b ∈ fp, H0 b = none)
    (fin : ∀ s' H', Inv (X.blk s3 H3 scope ce fp0) pins (wipe σ vs) H' s' → Nout H' → R (.ok .next) s') :
    codeAny (model X.prog X.w) X.A (.compLoop (.ListComp elt gens sc pos) d (.ref it) (.ref D) ce) R s0 := by
  obtain ⟨W, ⟨m0, w0⟩, turn⟩ := turns
  refine codeAny_loop rfl (fun n s' => ∃ i H', Inv (X.blk s3 H3 scope ce fp0) pins (wipe σ vs) H' s' ∧ tn i s'.heap ∧ (∀ b ∈ fp, H' b = none) ∧ W i n H') (fun n s5 hI => ?_) m0 ⟨0, H0, I, st, n0, w0⟩
  obtain ⟨i, H5, I5, st5, n5, w5⟩ := hI
  show wpAny _ X.A ((compTurn (.ListComp elt gens sc pos) d (.ref it) (.ref D) ce).onRaise (fun x => do noteFrame x ce; theTreesLotGoes x)) _ _ s5
  refine wpAny_noted ?_
  rw [heq]
  refine wpAny_bind (wpAny_standAt (wpAny_bind ?_))
  rcases turn i n H5 w5 with ⟨stop, nout⟩ | ⟨go, Nx, hNx, step⟩
  · refine thnF (T.done (X.blk s3 H3 scope ce fp0) rfl rfl rfl hc i pins s5 _ H5 (fun _ _ => False) I5 (stat _ _ _ I5 n5) st5 stop) fun r s6 h6 => ?_
    obtain ⟨rfl, I6⟩ := h6
    exact wpAny_pure (fin s6 H5 I6 nout)
  · refine thnF (T.item (X.blk s3 H3 scope ce fp0) rfl rfl rfl hc i pins s5 _ H5 (fun _ _ => False) I5 (stat _ _ _ I5 n5) st5 go) fun r s6 h6 => ?_
    obtain ⟨u, rfl, h6⟩ := h6
    refine wpAny_bind (thnF h6 fun _ s7 h7 => ?_)
    obtain ⟨x, H7, I7, r7, y7, st7, n7⟩ := h7
    have J7 := I7.pinned (stat _ _ _ I7 n7) (T.obj _ _ st7)
    refine wpAny_bind (thnF (hg.run _ s7 _ H7 x u _ J7 r7 (step x H7 y7)) fun _ s8 h8 => ?_)
    obtain ⟨σ8, H8, I8, hw8, q8⟩ := h8
    refine wpAny_bind (thnF (ht.run _ s8 σ8 H8 _ I8 q8) fun b s9 h9 => ?_)
    obtain ⟨H9, I9, q9⟩ := h9
    have next : ∀ (σ9 : L2.St) (s' : Shared) (H' : Hp), Inv (X.blk s3 H3 scope ce fp0) (pins ++ pinsAt fp s7.heap) σ9 H' s' → σ9.length = σ8.length → (∀ (j : Nat) v, (wipe σ8 vs)[j]? = some (some v) → σ9[j]? = some (some v)) → Nx H' →
        ∃ m, m < n ∧ ∃ i H', Inv (X.blk s3 H3 scope ce fp0) pins (wipe σ vs) H' s' ∧ tn i s'.heap ∧ (∀ b ∈ fp, H' b = none) ∧ W i m H' := by
      intro σ9 s' H' I' hl hk nx
      obtain ⟨m', hm, w'⟩ := hNx H' nx
      have held : ∀ b ∈ fp, ∀ o, s7.heap.get? b = some o → s'.heap.get? b = some o ∧ H' b = none := by
        intro b hb o e
        have z := I'.pin (b, o) (List.mem_append_right _ (List.mem_append_right _ (mem_pinsAt hb e)))
        exact ⟨z.1, z.2.1⟩
      refine ⟨m', hm, i + 1, H', I'.unpinned.weak ?_ ?_, T.keep _ _ _ st7 fun b hb o e => (held b hb o e).1, fun b hb => ?_, w'⟩
      · rw [hl, ← hw8, wipe_length]
      · intro j v e
        rw [← hw8] at e
        exact hk j v e
      · obtain ⟨o, e, _⟩ := T.obj _ _ st7 b hb
        exact (held b hb o e).2
    cases b with
    | false => exact wpAny_pure ⟨rfl, next σ8 s9 H9 I9 rfl (fun j v e => (wipe_some e).1) (by simpa using q9)⟩
    | true =>
      refine wpAny_bind (thnF (body _ σ8 s9 H9 Nx I9 (by simpa using q9)) fun _ s10 h10 => ?_)
      obtain ⟨H10, σ10, I10, hl10, hk10, nx⟩ := h10
      exact wpAny_pure ⟨rfl, next σ10 s10 H10 I10 hl10 hk10 nx⟩
/-- the innermost body: the element is appended -/
def btElt (te : TE) (D : Addr) : BodyT := fun σ H Nx => te σ H fun y H7 => ∃ acc, H7 D = some (.lst acc) ∧ acc.length < sizeLine ∧ Nx (upd H7 D (.lst (acc ++ [y])))
theorem body_elt {elt : Expr} {te : TE} {D : Addr} {vs : List Nat} (hE : (X.blk s3 H3 scope ce fp0).env = ce) (pe : PE (X.blk s3 H3 scope ce fp0) elt te) :
    BodyOk X s3 H3 scope ce fp0 vs (do let _ ← call (.builtin "list.append") [.ref D, ← eval elt ce]) (btElt te D) := by
  intro pins σ s H Nx I h
  have run := pe.run pins s σ H _ I h
  rw [hE] at run
  refine wpAny_bind (thnF run fun z s1 h1 => ?_)
  obtain ⟨y, H1, I1, r1, acc, hD, hz, nx⟩ := h1
  refine wpAny_bind (app_ok (X := X.blk s3 H3 scope ce fp0) I1 hD hz r1 fun s2 I2 => wpAny_pure ⟨_, σ, I2, rfl, fun j v e => (wipe_some e).1, nx⟩)
/-- the body that runs a further clause -/
def btNest (wi : TI) (g : TG) (tt : TT) (bt : BodyT) (vs : List Nat) : BodyT := fun σ H Nx => wi σ H fun J H4 => tTurns g tt bt vs J σ H4 Nx
theorem start_at {elt : Expr} {gens : List Comprehension} {sc : Scope} {pos : Pos} {d : Nat} {it acc : Value} {env : Env} {A : Around} {R : Result → Shared → Prop} {s : Shared} {prog : Program} {w : World} {gc : Comprehension} (hcl : (clausesOf (.ListComp elt gens sc pos))[d]? = some gc) (ha : gc.is_async = 0)
    (h0 : codeAny (model prog w) A (.compLoop (.ListComp elt gens sc pos) d it acc env) R s)
    (h : wpAny (model prog w) A (pyIter it) (fun it' s' => codeAny (model prog w) A (.compLoop (.ListComp elt gens sc pos) d it' acc env) R s') (notedBy (model prog w) A env fun x s' => R (.error x) s') s) :
    codeAny (model prog w) A (.compStart (.ListComp elt gens sc pos) d it acc env) R s := by
  refine codeAny_of_tree ?_
  show wpAny _ _ ((compStart (.ListComp elt gens sc pos) d it acc env).onRaise (fun x => do noteFrame x env; standAt theWindowsPlace)) _ _ s
  refine wpAny_notedAt ?_
  unfold compStart
  rw [hcl]
  have hb : (gc.is_async != 0) = false := by rw [ha]; rfl
  simp only [Option.elim_some, hb, Bool.false_eq_true, if_false]
  show wpAny _ _ (ask >>= _) _ _ s
  refine wpAny_bind (wpAny_askSetting (wpAny_ite ?_))
  split
  · first
      | exact wpAny_bind (wpAny_pure (wpAny_pure (And.intro rfl h0)))
      | exact wpAny_pure (And.intro rfl h0)
  · refine wpAny_bind (wpAny_rule ?_)
    refine wpAny_bind (wpAny_standAt ?_)
    exact wpAny_bind (wpAny_mono h (fun it' s' h' => wpAny_pure (And.intro rfl h')) fun _ _ x => x)
theorem body_nest {elt t1 i1 : Expr} {gens : List Comprehension} {sc : Scope} {pos : Pos} {d : Nat} {ifs1 : List Expr} {BODY : Sem Unit} {D : Addr} {vs vs1 : List Nat} {wi1 : TI} {g1 : TG} {tt1 : TT} {bt : BodyT} {gc : Comprehension} (hc : X.calm = true) (hE : (X.blk s3 H3 scope ce fp0).env = ce)
    (hcl : (clausesOf (.ListComp elt gens sc pos))[d]? = some gc) (ha : gc.is_async = 0) (hs : ∀ env x, foldedSetIterable i1 env x = pure x)
    (heq : ∀ it, compTurn (.ListComp elt gens sc pos) d (.ref it) (.ref D) ce = (do
      standAt i1.pos
      match ← pyNext (.ref it) with
      | none => pure (.done .next)
      | some v =>
        letOwnedTupleGo t1 (.ref it) v
        assign t1 ce v
        let mut ok := true
        for c in ifs1 do
          if ok then ok ← isTrue c ce (eval c ce)
        if ok then BODY
        again (.compLoop (.ListComp elt gens sc pos) d (.ref it) (.ref D) ce)))
    (pi1 : PI (X.blk s3 H3 scope ce fp0) t1 i1 wi1) (hg1 : PG (X.blk s3 H3 scope ce fp0) t1 g1) (ht1 : PTs (X.blk s3 H3 scope ce fp0) ifs1 tt1) (body : BodyOk X s3 H3 scope ce fp0 vs1 BODY bt) (hv : ∀ i ∈ vs1, i ∈ vs) :
    BodyOk X s3 H3 scope ce fp0 vs (do
      let x ← eval i1 ce
      standAt i1.pos
      let x ← foldedSetIterable i1 ce x
      let _ ← runOwn (.compStart (.ListComp elt gens sc pos) d (← holding [x] (pyIter x)) (.ref D) ce) ce) (btNest wi1 g1 tt1 bt vs1) := by
  intro pins σ s H Nx I h
  have run := pi1.run pins s σ H _ I h
  rw [hE] at run
  refine wpAny_bind (thnF run fun xv s1 hx => ?_)
  refine wpAny_bind (wpAny_standAt (wpAny_bind (wpAny_of_eq (hs ce xv) (wpAny_bind (wpAny_holding (thnF hx fun itv s2 h2 => ?_))))))
  obtain ⟨it1, fp1, tn1, J1, H2, rfl, I2, T1, st2, f2, turns⟩ := h2
  refine wpAny_bind (wpAny_runOwn ?_)
  rw [Around.mark_none]
  have loop : codeAny (model X.prog X.w) X.A (.compLoop (.ListComp elt gens sc pos) d (.ref it1) (.ref D) ce) (fun r s' => match r with
      | .ok _ => ∃ H' σ', Inv (X.blk s3 H3 scope ce fp0) pins σ' H' s' ∧ σ'.length = σ.length ∧ (∀ (j : Nat) v, (wipe σ vs)[j]? = some (some v) → σ'[j]? = some (some v)) ∧ Nx H'
      | .error _ => False) s2 := by
    refine clause_loop (vs := vs1) hc (heq it1) T1 hg1 ht1 body (fun σ' H' s' _ hn b hb => ⟨hn b hb, (f2 b hb).2⟩) turns (I2.weak (wipe_length _ _) (fun j v e => (wipe_some e).1)) st2 (fun b hb => (f2 b hb).1) ?_
    intro s' H' I' nx
    refine ⟨H', wipe σ vs1, I', wipe_length _ _, fun j v e => ?_, nx⟩
    obtain ⟨e1, e2⟩ := wipe_some e
    rw [wipe_out fun z => e2 (hv j z)]
    exact e1
  refine codeAny_mono (start_at hcl ha loop (T1.self X.A 0 _ _ _ st2 loop)) fun r s' hr => ?_
  cases r with
  | ok f =>
    first
      | exact wpAny_pure hr
      | exact wpAny_bind (wpAny_pure (wpAny_pure hr))
  | error e => exact hr.elim
end
end Pv
namespace Pv
open PySem PySem.Spec PyProof.Rows L2
section
variable {X : Cx}
def tLc3 (wi : TI) (g : TG) (tt : TT) (wi1 : TI) (g1 : TG) (tt1 : TT) (wi2 : TI) (g2 : TG) (tt2 : TT) (te : TE) (vs vs1 vs2 : List Nat) : TE := fun σ H Q => wi σ H fun J H1 => ∀ D, H1 D = none →
  tTurns g tt (btNest wi1 g1 tt1 (btNest wi2 g2 tt2 (btElt te D) vs2) vs1) vs J σ (upd H1 D (.lst [])) (fun H' => Q (.ref D) H')
theorem pe_lc3 {elt tg iter tg1 iter1 tg2 iter2 : Expr} {ifs ifs1 ifs2 : List Expr} {scope : Scope} {own : List (Str × Nat)} {vs1 vs2 : List Nat} {pos : Pos} {wi wi1 wi2 : TI} {g g1 g2 : TG} {tt tt1 tt2 : TT} {te : TE}
    (calm : X.calm = true) (nodup : X.N.Nodup) (src : PI X tg iter wi) (blk : BlkOk X.N X.env.scope scope own) (in1 : ∀ i ∈ vs1, i ∈ own.map (·.2)) (in2 : ∀ i ∈ vs2, i ∈ vs1)
    (hg : ∀ (s : Shared) (H : Hp) (C : Addr) (cl : List (Str × Addr)) (fp : List Addr), PG (X.blk s H scope (compEnvC scope cl C X.env) fp) tg g)
    (ht : ∀ (s : Shared) (H : Hp) (C : Addr) (cl : List (Str × Addr)) (fp : List Addr), PTs (X.blk s H scope (compEnvC scope cl C X.env) fp) ifs tt)
    (src1 : ∀ (s : Shared) (H : Hp) (C : Addr) (cl : List (Str × Addr)) (fp : List Addr), PI (X.blk s H scope (compEnvC scope cl C X.env) fp) tg1 iter1 wi1)
    (hg1 : ∀ (s : Shared) (H : Hp) (C : Addr) (cl : List (Str × Addr)) (fp : List Addr), PG (X.blk s H scope (compEnvC scope cl C X.env) fp) tg1 g1)
    (ht1 : ∀ (s : Shared) (H : Hp) (C : Addr) (cl : List (Str × Addr)) (fp : List Addr), PTs (X.blk s H scope (compEnvC scope cl C X.env) fp) ifs1 tt1)
    (src2 : ∀ (s : Shared) (H : Hp) (C : Addr) (cl : List (Str × Addr)) (fp : List Addr), PI (X.blk s H scope (compEnvC scope cl C X.env) fp) tg2 iter2 wi2)
    (hg2 : ∀ (s : Shared) (H : Hp) (C : Addr) (cl : List (Str × Addr)) (fp : List Addr), PG (X.blk s H scope (compEnvC scope cl C X.env) fp) tg2 g2)
    (ht2 : ∀ (s : Shared) (H : Hp) (C : Addr) (cl : List (Str × Addr)) (fp : List Addr), PTs (X.blk s H scope (compEnvC scope cl C X.env) fp) ifs2 tt2)
    (el : ∀ (s : Shared) (H : Hp) (C : Addr) (cl : List (Str × Addr)) (fp : List Addr), PE (X.blk s H scope (compEnvC scope cl C X.env) fp) elt te)
    (hs : ∀ x, foldedSetIterable iter X.env x = pure x := by intro _; rfl) (hs1 : ∀ env x, foldedSetIterable iter1 env x = pure x := by intro _ _; rfl) (hs2 : ∀ env x, foldedSetIterable iter2 env x = pure x := by intro _ _; rfl) :
    PE X (.ListComp elt [⟨tg, iter, ifs, 0⟩, ⟨tg1, iter1, ifs1, 0⟩, ⟨tg2, iter2, ifs2, 0⟩] scope pos) (tLc3 wi g tt wi1 g1 tt1 wi2 g2 tt2 te (own.map (·.2)) vs1 vs2) := by
  refine ⟨fun pins s σ H Q I h => ?_⟩
  rw [eval_ListComp]
  have caps : ∀ y ∈ scope.names, y.2 = .free → ∃ c, X.env.cells.lookup y.1 = some c := by
    intro y hy e
    rcases blk.free y hy e with k | k
    · exact I.ok.has _ (.inl k)
    · exact I.ok.has _ (.inr k)
  refine wpAny_comprehension_free (use := none) rfl hs (closure_ok caps) blk.kind (fun y hy e => by rw [blk.uniq y hy, e]) (thn (src.run pins s σ H _ I h) fun xv s1 hx => thn hx fun itv s2 h2 => ?_)
  obtain ⟨it, fp, tn, J, H2, rfl, I2, T, st2, f2, q⟩ := h2
  refine wpAny_newObj_type (newEnv_comp ?_) (by show 0 ≤ sizeLine; decide)
  have freeD : H2 s2.heap.objs.size = none := I2.hok.fresh (Nat.le_refl _)
  have turns := q s2.heap.objs.size freeD
  generalize hD : s2.heap.objs.size = D at freeD turns
  generalize hs3 : ({ s2 with heap := s2.heap.push { cls := .type "list", data := .seq ([] : List Value).toArray } } : Shared) = s3
  have hp3 : s3.heap = s2.heap.push { cls := .type "list", data := .seq ([] : List Value).toArray } := by rw [← hs3]
  have I3 : Inv X pins σ (upd H2 D (.lst [])) s3 := by
    rw [← hs3]
    refine I2.laid (t' := s2.toks) (fun b o e => Heap.get?_push_of_some _ e) (Nat.le_of_eq hD) ⟨Nat.zero_le _, [], 0, .nil, ?_⟩
    rw [← hD]
    exact Heap.get?_push_size _ rfl
  have f3 : ∀ b ∈ fp, FpOk X pins (upd H2 D (.lst [])) b ∧ b < s3.heap.objs.size := by
    intro b hb
    obtain ⟨o, e, _⟩ := T.obj _ _ st2 b hb
    have lt := Heap.lt_size e
    refine ⟨⟨?_, (f2 b hb).2⟩, by rw [hp3, Heap.size_push]; exact Nat.lt_succ_of_lt lt⟩
    rw [upd_ne (by rw [← hD]; exact Nat.ne_of_lt lt)]
    exact (f2 b hb).1
  have st3 : tn 0 s3.heap := T.keep _ _ _ st2 fun b _ o e => by rw [hp3]; exact Heap.get?_push_of_some _ e
  have I4 := block_start I3 blk nodup f3
  have none3 : ∀ b ∈ fp, (upd H2 D (.lst [])) b = none := fun b hb => (f3 b hb).1.1
  generalize hH3 : upd H2 D (.lst []) = H3 at I3 I4 none3 f3 turns
  generalize hcl : cellsFrom (s3.heap.objs.size + 1) scope.names (cloFrom X.env.cells scope.names []) = cl at I4
  have rg := hg s3 H3 s3.heap.objs.size cl fp
  have rt := ht s3 H3 s3.heap.objs.size cl fp
  have ri1 := src1 s3 H3 s3.heap.objs.size cl fp
  have rg1 := hg1 s3 H3 s3.heap.objs.size cl fp
  have rt1 := ht1 s3 H3 s3.heap.objs.size cl fp
  have ri2 := src2 s3 H3 s3.heap.objs.size cl fp
  have rg2 := hg2 s3 H3 s3.heap.objs.size cl fp
  have rt2 := ht2 s3 H3 s3.heap.objs.size cl fp
  have re := el s3 H3 s3.heap.objs.size cl fp
  have atL : (compEnvC scope cl s3.heap.objs.size X.env).locals = s3.heap.objs.size := rfl
  show codeAny _ _ (.compStart (.ListComp elt [⟨tg, iter, ifs, 0⟩, ⟨tg1, iter1, ifs1, 0⟩, ⟨tg2, iter2, ifs2, 0⟩] scope pos) 0 (.ref it) (.ref D) (compEnvC scope cl s3.heap.objs.size X.env)) (compPost (model X.prog X.w) X.A X.xe none (EP X pins σ Q) (.ref D) s3.heap.objs.size) { s3 with heap := pushCells (s3.heap.push { cls := .type "dict", data := .dict #[] }) scope.names }
  generalize compEnvC scope cl s3.heap.objs.size X.env = ce at I4 rg rt ri1 rg1 rt1 ri2 rg2 rt2 re atL ⊢
  generalize hs4 : ({ s3 with heap := pushCells (s3.heap.push { cls := .type "dict", data := .dict #[] }) scope.names } : Shared) = s4 at I4 ⊢
  have st4 : tn 0 s4.heap := T.keep _ _ _ st3 fun b _ o e => by rw [← hs4]; exact pushCells_keeps _ _ _ _ (Heap.get?_push_of_some _ e)
  have b2 : BodyOk X s3 H3 scope ce fp vs2 (do let _ ← call (.builtin "list.append") [.ref D, ← eval elt ce]) (btElt te D) := body_elt rfl re
  have b1 : BodyOk X s3 H3 scope ce fp vs1 _ _ := body_nest (elt := elt) (gens := [⟨tg, iter, ifs, 0⟩, ⟨tg1, iter1, ifs1, 0⟩, ⟨tg2, iter2, ifs2, 0⟩]) (sc := scope) (pos := pos) (d := 2) (D := D) calm rfl rfl rfl hs2 (fun _ => rfl) ri2 rg2 rt2 b2 in2
  have b0 : BodyOk X s3 H3 scope ce fp (own.map (·.2)) _ _ := body_nest (elt := elt) (gens := [⟨tg, iter, ifs, 0⟩, ⟨tg1, iter1, ifs1, 0⟩, ⟨tg2, iter2, ifs2, 0⟩]) (sc := scope) (pos := pos) (d := 1) (D := D) calm rfl rfl rfl hs1 (fun _ => by simp only [bind_assoc, pure_bind]; rfl) ri1 rg1 rt1 b1 in1
  have loop : codeAny (model X.prog X.w) X.A (.compLoop (.ListComp elt [⟨tg, iter, ifs, 0⟩, ⟨tg1, iter1, ifs1, 0⟩, ⟨tg2, iter2, ifs2, 0⟩] scope pos) 0 (.ref it) (.ref D) ce) (compPost (model X.prog X.w) X.A X.xe none (EP X pins σ Q) (.ref D) s3.heap.objs.size) s4 := by
    refine clause_loop (pins := []) (σ := σ) (vs := own.map (·.2)) (p0 := iter.pos) calm (by simp only [bind_assoc, pure_bind]; rfl) T rg rt b0 ?_ turns I4 st4 none3 ?_
    · intro σ' H' s' I' hn b hb
      exact ⟨hn b hb, (I'.ok.exf b hb).1, I'.ok.exfs b hb, .inl hb, fun x c e => (I'.ok.exf b hb).2 x c e, fun p hp => absurd (show p ∈ ([] : List (Addr × Obj)) ++ [] from hp) (by simp)⟩
    · intro s' H' I' hq
      have back : Inv X pins σ H' s' := I3.call' (ch := fp) I'.os I'.base I'.hok I'.bare fun b hb => ⟨(f3 b hb).1.2.2.2.1, (f3 b hb).1.2.1, (f3 b hb).1.2.2.2.2.1, (f3 b hb).1.2.2.2.2.2⟩
      have freeC : H' s3.heap.objs.size = none := by
        have z : H' ce.locals = none := I'.free
        rw [atL] at z
        exact z
      obtain ⟨m, hn, _⟩ := I'.loc
      have hn : s'.heap.Ns ce.locals m := hn
      rw [atL] at hn
      obtain ⟨k0, k1, k2, k3, k4, k5⟩ := I3.fpOk (Nat.le_refl _) freeC
      exact ⟨m, hn, fun h'' sb => ⟨.ref D, H', back.turned (t' := s'.toks) (fun b o hb e => (sb.2 b hb).trans e) k0 k1 k3 k4 k5, rfl, hq⟩⟩
  exact codeAny_compStart_list loop (T.self X.A 0 _ _ _ st4 loop)
/-- a clause's turns from a walk -/
theorem turns_it {J : It} {n : Nat} {G : Hp → Prop} {Y : Nat → Hp → V → Hp → Prop} (w : Walk J n G Y) {g : TG} {tt : TT} {bt : BodyT} {vs : List Nat} {σ : L2.St} {H0 : Hp} {Nout : Hp → Prop} (Pv : Nat → Hp → Prop) (h0 : Pv 0 H0) (hG : ∀ i H, i ≤ n → Pv i H → G H)
    (hs : ∀ i x H H', i < n → Pv i H → Y i H x H' → g x (wipe σ vs) H' fun σ2 H2 => wipe σ2 vs = wipe σ vs ∧ tt σ2 H2 fun b H3 => if b = true then bt σ2 H3 (Pv (i + 1)) else Pv (i + 1) H3)
    (hd : ∀ H, Pv n H → Nout H) : tTurns g tt bt vs J σ H0 Nout := by
  refine ⟨fun i m H => m = n - i ∧ i ≤ n ∧ Pv i H, ⟨n, by omega, Nat.zero_le _, h0⟩, ?_⟩
  rintro i m H ⟨rfl, hi, hp⟩
  by_cases hlt : i < n
  · exact .inr ⟨w.goes i H hlt (hG i H hi hp), Pv (i + 1), fun H' h' => ⟨n - (i + 1), by omega, rfl, by omega, h'⟩, fun x H' hy => hs i x H H' hlt hp (w.yields i H x H' hlt (hG i H hi hp) hy)⟩
  · obtain rfl : i = n := by omega
    exact .inl ⟨w.stops H (hG i H hi hp), hd H hp⟩
end
end Pv

namespace Pv
open PySem PySem.Spec PyProof.Rows L2
def topS (i : Nat) : Stmt := PySem.Challenge.pw_postvote_k06_results_and_votes.main.body.getD i (.Pass ⟨0, 0, 0, 0⟩)
abbrev sDraw : Stmt := topS 24
theorem scDraw : FnScope ["_law_state", "_law_below", "_law_cells", "_law_rests", "_law_turn", "_law_spot", "_law_digit", "_law_mixed"] ["_law_state", "_law_below"] (defScope sDraw) :=
  ⟨rfl, rfl, rfl, by decide +kernel, rfl, by decide +kernel, by decide +kernel⟩
section
variable {P : Program} {w : World} {K : PySem.W.Frag} {mg : Str → Option Value} {base : Heap}
def spDraw : Sp := fun vs H Q _ => ∃ (st c r : Addr) (t : Nat) (m : Int), vs = [.ref st, .int m] ∧ DS H st c r t ∧ t < 1000000 ∧ 0 < m ∧ m ≤ 2 ^ 60 ∧
  ∀ (H' : Hp) (d : Int), 0 ≤ d → d < m → DS H' st c r (t + 1) → Ext st r H H' → Q (.int d) H'
set_option maxHeartbeats 1000000 in
theorem ok_draw {f : Addr} {fd : FuncData} {k : Nat} (F : Fun K "_law_draw" "_law_draw" sDraw f fd) (ml : mg "len" = none) : FnOk P w K mg base CX0 (k + 1) f fd ["_law_state", "_law_below"] spDraw := by
  refine F.ok scDraw (fun vs H Q E h => ?_) (fun cdv A outer s H vs Q E hr h => ?_)
  · obtain ⟨st, c, r, t, m, rfl, _⟩ := h
    rfl
  · obtain ⟨st, c, r, t, m, rfl, hd, ht, hm, hm2, q⟩ := h
    obtain ⟨cells, rests, hc, hrr, hl, hl0, hl1, hnn⟩ := hd.ex
    refine ⟨_, pss_cons (ps_asg (pv 0) (pg_unl rfl (pgs_cons (pg_name (i := 2) scDraw.nd rfl (.inl rfl)) (pgs_cons (pg_name (i := 3) scDraw.nd rfl (.inl rfl)) (pgs_cons (pg_name (i := 4) scDraw.nd rfl (.inl rfl)) pgs_nil)))))
      (pss_cons (ps_set (i := 5) scDraw.nd rfl (.inl rfl) (pe_op op_mod (pv 4) (pe_callB call_len_seq (by rfl) ml PySem.boot_len (pa_cons (pv 2) pa_nil))))
      (pss_cons (ps_asg (pe_op op_add (pv 4) pe_int) (pg_sub (pv 0) pe_int set_list))
      (pss_cons (ps_if (pt_cmpR op_gt (pe_ix ix_list (pv 3) (pv 5) (fun _ _ => rfl)) pe_int (nomark _))
        (pss_cons (ps_set (i := 6) scDraw.nd rfl (.inl rfl) (pe_op op_mod (pe_ix ix_list (pv 3) (pv 5) (fun _ _ => rfl)) (pv 1)))
        (pss_cons (ps_asg (pe_op op_fdivW (pe_ix ix_list (pv 3) (pv 5) (fun _ _ => rfl)) (pv 1)) (pg_sub (pv 3) (pv 5) set_list))
        (pss_one (ps_ret (pv 6))))) pss_nil)
      (pss_cons (ps_set (i := 7) scDraw.nd rfl (.inl rfl) (pe_op op_mod (pe_op op_pow (pe_op op_add (pe_op op_add (pe_op op_mod (pe_ix ix_list (pv 2) (pv 5) (fun _ _ => rfl)) pe_int) (pe_op op_mul pe_int (pv 4))) pe_int) pe_int) pe_int))
      (pss_cons (ps_set (i := 7) scDraw.nd rfl (.inl rfl) (pe_op op_mod (pe_op op_pow (pe_op op_add (pe_op op_add (pv 7) (pe_op op_mul (pe_op op_mul pe_int (pv 4)) (pv 4))) pe_int) pe_int) pe_int))
      (pss_one (ps_ret (pe_op op_mod (pe_op op_fdiv (pv 7) pe_int) (pv 1))))))))), ?_⟩
    -- the unpacking
    refine ⟨.ref st, rfl, st, _, rfl, SqL.of hd.hs, rfl, .ref c, _, rfl, .ref r, _, rfl, .int t, _, rfl, rfl, ?_⟩
    -- spot
    refine ⟨.int t, rfl, .ref c, rfl, c, _, rfl, .inl (SqL.of hc), _, _, rfl, rfl, by rw [List.length_map]; omega, ?_⟩
    have hn : (List.map V.int cells).length = cells.length := List.length_map ..
    have hsp : ((t : Int) % (((List.map V.int cells).length : Nat) : Int)) = ((t % cells.length : Nat) : Int) := by rw [hn]; norm_cast
    have hlt : t % cells.length < cells.length := Nat.mod_lt _ hl0
    generalize hj : t % cells.length = j at hsp hlt
    obtain ⟨x, hx⟩ : ∃ x, rests[j]? = some x := ⟨rests[j], List.getElem?_eq_getElem (by omega)⟩
    obtain ⟨y, hy⟩ : ∃ y, cells[j]? = some y := ⟨cells[j], List.getElem?_eq_getElem (by omega)⟩
    have hx0 : 0 ≤ x := hnn x (List.mem_of_getElem? hx)
    have hxv : (rests.map V.int)[j]? = some (.int x) := by rw [List.getElem?_map, hx]; rfl
    have hyv : (cells.map V.int)[j]? = some (.int y) := by rw [List.getElem?_map, hy]; rfl
    dsimp only
    rw [hsp]
    -- state[2] = turn + 1
    refine ⟨.int t, rfl, _, _, rfl, rfl, .ref st, rfl, st, _, 2, 2, rfl, rfl, hd.hs, rfl, ?_⟩
    have e1 : (upd H st (.lst [.ref c, .ref r, .int ((t : Int) + 1)])) r = some (.lst (rests.map V.int)) := by rw [upd_ne hd.n3.symm]; exact hrr
    have e2 : (upd H st (.lst [.ref c, .ref r, .int ((t : Int) + 1)])) c = some (.lst (cells.map V.int)) := by rw [upd_ne hd.n2.symm]; exact hc
    have ex0 : Ext st r H (upd H st (.lst [.ref c, .ref r, .int ((t : Int) + 1)])) := fun b o h n1 _ => by rw [upd_ne n1]; exact h
    have d0 : DS (upd H st (.lst [.ref c, .ref r, .int ((t : Int) + 1)])) st c r (t + 1) := ⟨upd_same, ⟨cells, rests, e2, e1, hl, hl0, hl1, hnn⟩, hd.n1, hd.n2, hd.n3⟩
    -- if rests[spot] > 0
    refine ⟨.ref r, rfl, .int j, rfl, r, _, _, .int x, rfl, rfl, SqL.of e1, atI_nat hxv, _, _, rfl, rfl, _, rfl, ite2 (fun hgt => ?_) (fun hle => ?_)⟩
    · refine ⟨.ref r, rfl, .int j, rfl, r, _, _, .int x, rfl, rfl, SqL.of e1, atI_nat hxv, .int m, rfl, _, _, rfl, rfl, hm, ?_⟩
      refine ⟨.ref r, rfl, .int j, rfl, r, _, _, .int x, rfl, rfl, SqL.of e1, atI_nat hxv, .int m, rfl, _, _, rfl, rfl, wide_div (b := 61) hm (by omega) (by decide) (by decide), ?_⟩
      refine ⟨.ref r, rfl, .int j, rfl, r, _, _, j, rfl, rfl, e1, ?_, ?_⟩
      · unfold ixN
        rw [if_pos (by omega), if_pos (by rw [List.length_map]; omega)]
        simp
      · refine ⟨_, rfl, q _ _ (Int.emod_nonneg _ (by omega)) (Int.emod_lt_of_pos _ hm) ?_ ?_⟩
        · refine ⟨by rw [upd_ne hd.n3]; exact upd_same, ⟨cells, rests.set j (x / m), by rw [upd_ne hd.n1]; exact e2, by rw [upd_same, List.map_set], by rw [List.length_set]; exact hl, hl0, hl1, ?_⟩, hd.n1, hd.n2, hd.n3⟩
          intro z hz
          rcases List.mem_or_eq_of_mem_set hz with h | h
          · exact hnn z h
          · rw [h]; exact Int.ediv_nonneg hx0 (by omega)
        · exact fun b o h n1 n2 => by rw [upd_ne n2]; exact ex0 b o h n1 n2
    · -- mixed
      have hy1 : 0 ≤ y % 2147483629 := Int.emod_nonneg _ (by decide)
      have hy2 : y % 2147483629 < 2147483629 := Int.emod_lt_of_pos _ (by decide)
      refine ⟨.ref c, rfl, .int j, rfl, c, _, _, .int y, rfl, rfl, SqL.of e2, atI_nat hyv, _, _, rfl, rfl, (by show (0 : Int) < 2147483629; decide), .int t, rfl, _, _, rfl, rfl, .inl ⟨by decide, by decide⟩, _, _, rfl, rfl, _, _, rfl, rfl, _, _, rfl, rfl, ⟨by decide, by decide, by omega⟩, _, _, rfl, rfl, (by show (0 : Int) < 2147483587; decide), ?_⟩
      dsimp only
      generalize hu : (y % 2147483629 + 48271 * (t : Int) + 811) ^ (3 : Int).toNat % 2147483587 = u
      have hu1 : 0 ≤ u := by rw [← hu]; exact Int.emod_nonneg _ (by decide)
      have hu2 : u < 2147483587 := by rw [← hu]; exact Int.emod_lt_of_pos _ (by decide)
      have htt : 69621 * (t : Int) * (t : Int) ≤ 69621 * 1000000 * 1000000 := by
        have a1 : (t : Int) * (t : Int) ≤ 1000000 * 1000000 := Int.mul_le_mul (by omega) (by omega) (by omega) (by omega)
        rw [Int.mul_assoc]; omega
      have htt0 : 0 ≤ 69621 * (t : Int) * (t : Int) := Int.mul_nonneg (by omega) (by omega)
      refine ⟨.int u, rfl, .int t, rfl, _, _, rfl, rfl, .inl ⟨by decide, by decide⟩, .int t, rfl, _, _, rfl, rfl, .inl ⟨by omega, by omega⟩, _, _, rfl, rfl, _, _, rfl, rfl, _, _, rfl, rfl, ⟨by decide, by decide, by omega⟩, _, _, rfl, rfl, (by show (0 : Int) < 2147483647; decide), ?_⟩
      refine ⟨_, rfl, _, _, rfl, rfl, ⟨by decide, by decide⟩, .int m, rfl, _, _, rfl, rfl, hm, ?_⟩
      exact q _ _ (Int.emod_nonneg _ (by omega)) (Int.emod_lt_of_pos _ hm) d0 ex0
end
end Pv

namespace Pv
open PySem PySem.Spec PyProof.Rows L2
theorem samePut {H H1 : Hp} {D : Addr} {o : HO} (s : Same H H1) (nD : H D = none) : Same H (upd H1 D o) := fun b z e => by rw [upd_ne (ne_of_none e nD)]; exact s b z e
theorem ty_sq {K : PySem.W.Frag} {H : Hp} {a : Addr} {xs : List V} (h : SqT K H a xs) : TyX K H (.ref a) (.type "tuple") := by
  rcases h with (h | ⟨o, h⟩) | ⟨o, its, n, h, hc, _⟩
  · exact .base (.tup h)
  · exact .fTuple h
  · exact .kTuple h hc
theorem small {n : Nat} (h : n ≤ 1000000) : n < sizeLine := Nat.lt_of_le_of_lt h (by decide)

abbrev sWhole : Stmt := topS 1
abbrev sWithin : Stmt := topS 2
abbrev sTupOf : Stmt := topS 3
abbrev sSp : Stmt := topS 4
theorem scWhole : FnScope ["value"] ["value"] (defScope sWhole) := ⟨rfl, rfl, rfl, by decide +kernel, rfl, by decide +kernel, by decide +kernel⟩
theorem scWithin : FnScope ["value", "least", "most"] ["value", "least", "most"] (defScope sWithin) := ⟨rfl, rfl, rfl, by decide +kernel, rfl, by decide +kernel, by decide +kernel⟩
theorem scTupOf : FnScope ["value", "least", "most"] ["value", "least", "most"] (defScope sTupOf) := ⟨rfl, rfl, rfl, by decide +kernel, rfl, by decide +kernel, by decide +kernel⟩
theorem scSp : FnScope ["value", "size", "total", "number"] ["value", "size", "total"] (defScope sSp) := ⟨rfl, rfl, rfl, by decide +kernel, rfl, by decide +kernel, by decide +kernel⟩
/-! what a value is, by its data -/
def wholeD (d : PyData) : Bool := isInt d && !isBool d
def withinD (a b : Int) : PyData → Bool
  | .int i => decide (a ≤ i ∧ i ≤ b)
  | _ => false
def tupOfD (a b : Int) : PyData → Bool
  | .tuple ds => decide (a ≤ (ds.length : Int) ∧ (ds.length : Int) ≤ b)
  | _ => false
def intsAll : List PyData → Option (List Int)
  | [] => some []
  | .int i :: r => (intsAll r).map (i :: ·)
  | _ :: _ => none
def intsOf : PyData → Option (List Int)
  | .tuple ds => intsAll ds
  | _ => none
theorem intsAll_ints : ∀ row : List Int, intsAll (row.map PyData.int) = some row
  | [] => rfl
  | i :: r => by simp [intsAll, intsAll_ints r]
theorem intsAll_eq : ∀ {ds : List PyData} {row : List Int}, intsAll ds = some row → ds = row.map PyData.int
  | [], row, h => by simp [intsAll] at h; subst h; rfl
  | d :: ds, row, h => by
    cases d <;> simp [intsAll] at h
    obtain ⟨r, h1, rfl⟩ := h
    rw [intsAll_eq h1]; rfl
theorem within_ints : ∀ {ds : List PyData} {a b : Int}, ds.all (withinD a b) = true → ∃ row : List Int, ds = row.map PyData.int ∧ row.all (fun x => decide (a ≤ x ∧ x ≤ b)) = true
  | [], _, _, _ => ⟨[], rfl, rfl⟩
  | d :: ds, a, b, h => by
    rw [List.all_cons, Bool.and_eq_true] at h
    obtain ⟨row, e, h2⟩ := within_ints h.2
    cases d with
    | int i => exact ⟨i :: row, by rw [e]; rfl, by rw [List.all_cons, Bool.and_eq_true]; exact ⟨h.1, h2⟩⟩
    | _ => simp [withinD] at h
def shareOk (n : Int) (row : List Int) : Bool := row.all (fun x => decide (0 ≤ x ∧ x ≤ n)) && decide (row.sum = n)
def shareD (gp : Gp) (d : PyData) : Bool := match intsOf d with
  | some row => decide (row.length = gp.1.length + 1) && shareOk gp.2 row
  | none => false
theorem shareD_dI (gp : Gp) (row : List Int) : shareD gp (dI row) = (decide (row.length = gp.1.length + 1) && shareOk gp.2 row) := by
  simp [shareD, dI, intsOf, intsAll_ints]
def splitD (n t : Int) (d : PyData) : Bool := match intsOf d with
  | some row => decide ((row.length : Int) = n) && shareOk t row
  | none => false
theorem split_share (gp : Gp) (d : PyData) : splitD ((gp.1.length : Int) + 1) gp.2 d = shareD gp d := by
  unfold splitD shareD
  cases intsOf d with
  | none => rfl
  | some row =>
    simp only
    congr 1
    by_cases h : row.length = gp.1.length + 1
    · rw [decide_eq_true h, decide_eq_true (by omega)]
    · rw [decide_eq_false h, decide_eq_false (by omega)]
section
variable {P : Program} {w : World} {K : PySem.W.Frag} {mg : Str → Option Value} {base : Heap}
def spWhole (K : PySem.W.Frag) : Sp := fun vs H Q _ => ∃ (st r : Addr) (v : V) (d : PyData), vs = [v] ∧ Dq K st r H v d ∧ Q (.bl (wholeD d)) H
theorem ok_whole {f : Addr} {fd : FuncData} {k : Nat} (F : Fun K "is_whole" "is_whole" sWhole f fd) (mi : mg "isinstance" = none) (mint : mg "int" = none) (mb : mg "bool" = none) :
    FnOk P w K mg base CX0 (k + 1) f fd ["value"] (spWhole K) := by
  refine F.ok scWhole (fun vs H Q E h => ?_) (fun cdv A outer s H vs Q E hr h => ?_)
  · obtain ⟨st, r, v, d, rfl, _⟩ := h; rfl
  · obtain ⟨st, r, v, d, rfl, hd, q⟩ := h
    refine ⟨_, pss_one (ps_ret (pe_and (pe_callB call_isi (by rfl) mi (by decide +kernel) (pa_cons (pv 0) (pa_cons (pe_bltn (v := .ty "int") (by rfl) mint (by decide +kernel) rfl) pa_nil)))
      (pe_one (pe_not (pe_callB call_isi (by rfl) mi (by decide +kernel) (pa_cons (pv 0) (pa_cons (pe_bltn (v := .ty "bool") (by rfl) mb (by decide +kernel) rfl) pa_nil))))))), ?_⟩
    refine ⟨v, rfl, v, .ty "int", _, _, _, rfl, .ty _, hd.ty, kit_int d, _, rfl, ite2 (fun h1 => ?_) (fun h1 => ?_)⟩
    · refine ⟨v, rfl, v, .ty "bool", _, _, _, rfl, .ty _, hd.ty, kit_bool d, _, rfl, ?_⟩
      unfold wholeD at q
      rw [h1, Bool.true_and] at q
      exact q
    · unfold wholeD at q
      rw [Bool.eq_false_iff.mpr h1, Bool.false_and] at q
      exact q
def spWithin (K : PySem.W.Frag) : Sp := fun vs H Q _ => ∃ (st r : Addr) (v : V) (d : PyData) (a b : Int), vs = [v, .int a, .int b] ∧ Dq K st r H v d ∧ Q (.bl (withinD a b d)) H
theorem ok_within {f fW : Addr} {fd fdW : FuncData} {k : Nat} (F : Fun K "is_within" "is_within" sWithin f fd) (FW : Fun K "is_whole" "is_whole" sWhole fW fdW) (bW : Binds K fdW ["value"] []) (gW : mg "is_whole" = some (.ref fW))
    (GW : FnOk P w K mg base CX0 1 fW fdW ["value"] (spWhole K)) : FnOk P w K mg base CX0 (1 + k + 1) f fd ["value", "least", "most"] (spWithin K) := by
  refine F.ok scWithin (fun vs H Q E h => ?_) (fun cdv A outer s H vs Q E hr h => ?_)
  · obtain ⟨st, r, v, d, a, b, rfl, _⟩ := h; rfl
  · obtain ⟨st, r, v, d, a, b, rfl, hd, q⟩ := h
    refine ⟨_, pss_one (ps_ret (pe_and (pe_call GW (hr.mono (by omega)) (by rfl) gW FW.kp bW .nil pass0 (pa_cons (pv 0) pa_nil)) (pe_one (pe_chain op_le op_le (pv 1) (pv 0) (pv 2))))), ?_⟩
    refine ⟨v, rfl, st, r, v, d, rfl, hd, _, rfl, ite2 (fun h1 => ?_) (fun h1 => ?_)⟩
    · cases d with
      | int i =>
        cases hd
        refine ⟨.int a, rfl, .int i, rfl, _, _, rfl, rfl, _, rfl, ite2 (fun h2 => ?_) (fun h2 => ?_)⟩
        · refine ⟨.int b, rfl, _, _, rfl, rfl, ?_⟩
          have h2' : a ≤ i := of_decide_eq_true h2
          simpa [withinD, h2'] using q
        · have h2' : ¬ a ≤ i := fun z => h2 (decide_eq_true z)
          simpa [withinD, h2'] using q
      | _ => simp [wholeD, isInt, isBool] at h1
    · cases d with
      | int i => simp [wholeD, isInt, isBool] at h1
      | _ => exact q
def spTupOf (K : PySem.W.Frag) : Sp := fun vs H Q _ => ∃ (st r : Addr) (v : V) (d : PyData) (a b : Int), vs = [v, .int a, .int b] ∧ Dq K st r H v d ∧ Q (.bl (tupOfD a b d)) H
theorem ok_tupOf {f : Addr} {fd : FuncData} {k : Nat} (F : Fun K "is_tuple_of" "is_tuple_of" sTupOf f fd) (mi : mg "isinstance" = none) (mt : mg "tuple" = none) (ml : mg "len" = none) :
    FnOk P w K mg base CX0 (k + 1) f fd ["value", "least", "most"] (spTupOf K) := by
  refine F.ok scTupOf (fun vs H Q E h => ?_) (fun cdv A outer s H vs Q E hr h => ?_)
  · obtain ⟨st, r, v, d, a, b, rfl, _⟩ := h; rfl
  · obtain ⟨st, r, v, d, a, b, rfl, hd, q⟩ := h
    refine ⟨_, pss_one (ps_ret (pe_and (pe_callB call_isi (by rfl) mi (by decide +kernel) (pa_cons (pv 0) (pa_cons (pe_bltn (v := .ty "tuple") (by rfl) mt (by decide +kernel) rfl) pa_nil)))
      (pe_one (pe_chain op_le op_le (pv 1) (pe_callB call_len_seq (by rfl) ml PySem.boot_len (pa_cons (pv 0) pa_nil)) (pv 2))))), ?_⟩
    refine ⟨v, rfl, v, .ty "tuple", _, _, _, rfl, .ty _, hd.ty, kit_tup d, _, rfl, ite2 (fun h1 => ?_) (fun h1 => ?_)⟩
    · cases d with
      | tuple ds =>
        cases hd with
        | @tup p xs _ hT ha =>
          refine ⟨.int a, rfl, .ref p, rfl, p, xs, rfl, .inr hT, _, _, rfl, rfl, _, rfl, ite2 (fun h2 => ?_) (fun h2 => ?_)⟩
          · refine ⟨.int b, rfl, _, _, rfl, rfl, ?_⟩
            have h2' : a ≤ (xs.length : Int) := of_decide_eq_true h2
            simpa [tupOfD, ← DqAll.len ha, h2'] using q
          · have h2' : ¬ a ≤ (xs.length : Int) := fun z => h2 (decide_eq_true z)
            simpa [tupOfD, ← DqAll.len ha, h2'] using q
      | _ => simp [isTup] at h1
    · cases d with
      | tuple ds => simp [isTup] at h1
      | _ => exact q
theorem splitD_not {n t : Int} {d : PyData} (h : tupOfD n n d = false) : splitD n t d = false := by
  cases e : intsOf d with
  | none => simp [splitD, e]
  | some row =>
    cases d with
    | tuple ds =>
      have e' : intsAll ds = some row := e
      rw [intsAll_eq e'] at h
      simp only [tupOfD, List.length_map, decide_eq_false_iff_not] at h
      have : ¬ (row.length : Int) = n := by omega
      simp [splitD, e, this]
    | _ => simp [intsOf] at e
theorem splitD_out {n t : Int} {ds : List PyData} (h : ds.all (withinD 0 t) = false) : splitD n t (.tuple ds) = false := by
  cases e : intsAll ds with
  | none => simp [splitD, intsOf, e]
  | some row =>
    have e' := intsAll_eq e
    rw [e', List.all_map] at h
    have : row.all (fun x => decide (0 ≤ x ∧ x ≤ t)) = false := h
    simp only [splitD, intsOf, e, shareOk, this, Bool.false_and, Bool.and_false]
theorem splitD_dI (n t : Int) (row : List Int) : splitD n t (dI row) = (decide ((row.length : Int) = n) && shareOk t row) := by
  simp [splitD, dI, intsOf, intsAll_ints]
def rSumT (K : PySem.W.Frag) : RC := fun xs H Q => ∃ (a : Addr) (ns : List Int), xs = [.ref a] ∧ SqT K H a (ns.map V.int) ∧ Q (.int ns.sum) H
theorem call_sumTQ {X : Cx} (hc : X.calm = true) : CallR X (.builtin "sum") (rSumT X.K) := call_sumT hc
def spSplit (K : PySem.W.Frag) : Sp := fun vs H Q _ => ∃ (st r : Addr) (v : V) (d : PyData) (n t : Int), vs = [v, .int n, .int t] ∧ Dq K st r H v d ∧ n ≤ 1000 ∧ ∀ H', Same H H' → Q (.bl (splitD n t d)) H'
theorem ok_Sp {f fTo fWi : Addr} {fd fdTo fdWi : FuncData} (F : Fun K "is_split" "is_split" sSp f fd)
    (FTo : Fun K "is_tuple_of" "is_tuple_of" sTupOf fTo fdTo) (bTo : Binds K fdTo ["value", "least", "most"] []) (gTo : mg "is_tuple_of" = some (.ref fTo)) (GTo : FnOk P w K mg base CX0 1 fTo fdTo ["value", "least", "most"] (spTupOf K))
    (FWi : Fun K "is_within" "is_within" sWithin fWi fdWi) (bWi : Binds K fdWi ["value", "least", "most"] []) (gWi : mg "is_within" = some (.ref fWi)) (GWi : FnOk P w K mg base CX0 2 fWi fdWi ["value", "least", "most"] (spWithin K))
    (m_all : mg "all" = none) (m_sum : mg "sum" = none) :
    FnOk P w K mg base CX0 3 f fd ["value", "size", "total"] (spSplit K) := by
  refine F.ok scSp (fun vs H Q E h => ?_) (fun cdv A outer s H vs Q E hr h => ?_)
  · obtain ⟨st, r, v, d, n, t, rfl, _⟩ := h; rfl
  · obtain ⟨st, r, v, d, n, t, rfl, hv, hlen, q⟩ := h
    refine ⟨_, pss_cons (ps_if (pt_not (pt_val (pe_call GTo (hr.mono (by omega)) (by rfl) gTo FTo.kp bTo .nil pass0 (pa_cons (pv 0) (pa_cons (pv 1) (pa_cons (pv 1) pa_nil))))))
        (pss_one (ps_ret (pe_bl))) pss_nil)
      (pss_one (ps_ret (pe_and (pe_callB (cr_all rfl) (by rfl) m_all (by decide +kernel) (pa_cons (pe_lc (own := [("number", 3)]) (g := gName 3) (tt := tYes) (te := tCall (spWithin K) [] E0 (tCons (tVar 3) (tCons (tC (.int 0)) (tCons (tVar 2) tNil)))) rfl scSp.nd (pi_tup (pv 0)) (blkOk_by (N := ["value", "size", "total", "number"]) (sc := defScope sSp) (by decide +kernel)) (fun _ _ _ _ _ => pg_name (i := 3) scSp.nd rfl (.inl rfl)) (fun _ _ _ _ _ => pts_nil) (fun _ _ _ _ _ => pe_call GWi (hr.mono (by omega)) (by rfl) gWi FWi.kp bWi .nil pass0 (pa_cons (pv 3) (pa_cons (pe_int) (pa_cons (pv 2) pa_nil))))) pa_nil)) (pe_one (pe_cmpR op_eq (pe_callB (call_sumTQ rfl) (by rfl) m_sum (by decide +kernel) (pa_cons (pv 0) pa_nil)) (pv 2) (nomark _)))))), ?_⟩
    refine ⟨v, rfl, .int n, rfl, .int n, rfl, st, r, v, d, _, _, rfl, hv, ?_⟩
    cases hb : tupOfD n n d with
    | false =>
      refine ⟨_, rfl, iteT ?_⟩
      have := q H (Same.refl H)
      rw [splitD_not hb] at this
      exact this
    | true =>
      refine ⟨_, rfl, iteF ?_⟩
      cases d with
      | tuple ds =>
        cases hv with
        | @tup va xs _ hV ha =>
          have hl := DqAll.len ha
          have hdl : (ds.length : Int) = n := by
            have := of_decide_eq_true hb
            omega
          refine ⟨.ref va, rfl, va, rfl, ⟨_, hV⟩, fun D nD => lc_tup (xs := xs)
            (fun i H2 => Same H H2 ∧ H2 D = some (.lst (((ds.take i).map (withinD 0 t)).map V.bl))) ⟨sameNew nD, upd_same⟩ (fun i H2 _ h2 => (TupK.of h2.1).sq hV) ?_ ?_⟩
          · rintro i x H2 hx ⟨s2, e2⟩
            obtain ⟨dx, hdx, hxd⟩ := DqAll.at ha hx
            have hil : i < ds.length := (List.getElem?_eq_some_iff.mp hdx).1
            refine ⟨rfl, x, rfl, .int t, rfl, st, r, x, dx, 0, t, rfl, hxd.lasts (.of s2), _, e2, ?_, samePut s2 nD, ?_⟩
            · rw [List.length_map, List.length_map, List.length_take]; exact small (by omega)
            · rw [upd_same, List.take_add_one, hdx]; simp
          · rintro H2 ⟨s2, e2⟩
            rw [hl, List.take_length] at e2
            refine ⟨D, _, rfl, SqL.of e2, _, rfl, ite2 (fun h1 => ?_) (fun h1 => ?_)⟩
            · rw [List.all_map] at h1
              obtain ⟨row, er, hrow⟩ := within_ints (show ds.all (withinD 0 t) = true from h1)
              subst er
              have hdp : DpAll K H xs (row.map PyData.int) := DqAll.to_dp (to_ints row) ha
              have hxs := DpAll.ints hdp
              subst hxs
              refine ⟨.ref va, rfl, va, row, rfl, (TupK.of s2).sq hV, .int t, rfl, rfl, ?_⟩
              have e : splitD n t (.tuple (row.map PyData.int)) = decide (V.int row.sum = V.int t) := by
                have e1 := splitD_dI n t row
                unfold dI at e1
                rw [e1]
                rw [List.length_map] at hdl
                unfold shareOk
                rw [hrow, decide_eq_true hdl, Bool.true_and, Bool.true_and]
                simp
              have := q H2 s2
              rw [e] at this
              exact this
            · rw [List.all_map] at h1
              have h2 := Bool.eq_false_iff.mpr h1
              have := q H2 s2
              rw [splitD_out (show ds.all (withinD 0 t) = false from h2)] at this
              have e3 : (List.map (withinD 0 t) ds).all id = false := by rw [List.all_map]; exact h2
              first | exact this | (rw [e3]; exact this)
      | _ => simp [tupOfD] at hb
/-! loads -/
def addAt (ls : List Int) (p x : Int) : List Int := ls.set p.toNat (ls.getD p.toNat 0 + x)
def rowLoads (ls : List Int) (ps row : List Int) : List Int := (ps.zip row).foldl (fun l q => addAt l q.1 q.2) ls
def loadsFrom (ls : List Int) (gs : List Gp) (rows : List (List Int)) : List Int := (gs.zip rows).foldl (fun l q => rowLoads l q.1.1 q.2) ls
theorem addAt_len (ls : List Int) (p x : Int) : (addAt ls p x).length = ls.length := by simp [addAt]
theorem rowLoads_len (ps row : List Int) (ls : List Int) : (rowLoads ls ps row).length = ls.length := by
  unfold rowLoads
  generalize ps.zip row = z
  induction z generalizing ls with
  | nil => rfl
  | cons q z ih => rw [List.foldl_cons, ih, addAt_len]
theorem rowLoads_take {ls ps row : List Int} {i : Nat} {p x : Int} (hp : ps[i]? = some p) (hx : row[i]? = some x) : rowLoads ls (ps.take (i + 1)) (row.take (i + 1)) = addAt (rowLoads ls (ps.take i) (row.take i)) p x := by
  have h1 : ps.take (i + 1) = ps.take i ++ [p] := by rw [List.take_add_one, hp]; rfl
  have h2 : row.take (i + 1) = row.take i ++ [x] := by rw [List.take_add_one, hx]; rfl
  have l1 := (List.getElem?_eq_some_iff.mp hp).1
  have l2 := (List.getElem?_eq_some_iff.mp hx).1
  unfold rowLoads
  rw [h1, h2, List.zip_append (by rw [List.length_take, List.length_take]; omega), List.foldl_append]
  rfl
theorem loadsFrom_take {ls : List Int} {gs : List Gp} {rows : List (List Int)} {i : Nat} {g : Gp} {row : List Int} (hp : gs[i]? = some g) (hx : rows[i]? = some row) :
    loadsFrom ls (gs.take (i + 1)) (rows.take (i + 1)) = rowLoads (loadsFrom ls (gs.take i) (rows.take i)) g.1 row := by
  have h1 : gs.take (i + 1) = gs.take i ++ [g] := by rw [List.take_add_one, hp]; rfl
  have h2 : rows.take (i + 1) = rows.take i ++ [row] := by rw [List.take_add_one, hx]; rfl
  have l1 := (List.getElem?_eq_some_iff.mp hp).1
  have l2 := (List.getElem?_eq_some_iff.mp hx).1
  unfold loadsFrom
  rw [h1, h2, List.zip_append (by rw [List.length_take, List.length_take]; omega), List.foldl_append]
  rfl
theorem loadsFrom_len (gs : List Gp) (rows : List (List Int)) (ls : List Int) : (loadsFrom ls gs rows).length = ls.length := by
  unfold loadsFrom
  generalize gs.zip rows = z
  induction z generalizing ls with
  | nil => rfl
  | cons q z ih => rw [List.foldl_cons, ih, rowLoads_len]
end
end Pv

namespace Pv
open PySem PySem.Spec PyProof.Rows L2
theorem freeOf {H : Hp} {p b : Addr} {o : HO} (h : upd H p o b = none) : H b = none := by
  by_cases e : b = p
  · subst e; rw [upd_same] at h; cases h
  · rw [upd_ne e] at h; exact h
theorem ixN_nat {n j : Nat} (h : j < n) : ixN n (j : Int) = some j := by
  unfold ixN
  rw [if_pos (by omega), if_pos (by omega)]
  simp
theorem zip_take {α β : Type} : ∀ (n : Nat) (a : List α) (b : List β), (a.take n).zip (b.take n) = (a.zip b).take n
  | 0, _, _ => by simp
  | _ + 1, [], _ => by simp
  | _ + 1, _ :: _, [] => by simp
  | n + 1, x :: a, y :: b => by simp [zip_take n a b]
theorem rowLoads_all (ls ps row : List Int) : rowLoads ls (ps.take (min ps.length row.length)) (row.take (min ps.length row.length)) = rowLoads ls ps row := by
  unfold rowLoads
  rw [zip_take, List.take_of_length_le (by rw [List.length_zip]; exact Nat.le_refl _)]
theorem loadsFrom_all (ls : List Int) (gs : List Gp) (rows : List (List Int)) : loadsFrom ls (gs.take (min gs.length rows.length)) (rows.take (min gs.length rows.length)) = loadsFrom ls gs rows := by
  unfold loadsFrom
  rw [zip_take, List.take_of_length_le (by rw [List.length_zip]; exact Nat.le_refl _)]
def InR (n : Nat) (gs : List Gp) : Prop := ∀ g ∈ gs, g.1.length ≤ 1000 ∧ ∀ p ∈ g.1, 0 ≤ p ∧ p < (n : Int)
def zeros (n : Nat) : List Int := List.replicate n 0
def loadsOf (n : Nat) (gs : List Gp) (rows : List (List Int)) : List Int := loadsFrom (zeros n) gs rows
theorem zeros_V (n : Nat) : (List.replicate n [V.int 0]).flatten = (zeros n).map V.int := by
  unfold zeros
  induction n with
  | zero => rfl
  | succ n ih => rw [List.replicate_succ, List.flatten_cons, ih]; rfl

abbrev sLoads : Stmt := topS 7
-- gone: _law_loads
theorem scLoads : FnScope ["instance", "assignment", "loads", "group", "share", "post", "number"] ["instance", "assignment"] (defScope sLoads) := ⟨rfl, rfl, rfl, by decide +kernel, rfl, by decide +kernel, by decide +kernel⟩
section
variable {P : Program} {w : World} {K : PySem.W.Frag} {mg : Str → Option Value} {base : Heap}
def spLoads (K : PySem.W.Frag) : Sp := fun vs H Q _ => ∃ (i a : Addr) (cs : List Int) (gs : List Gp) (rows : List (List Int)), vs = [.ref i, .ref a] ∧ Dp K H (.ref i) (dInst cs gs) ∧ Dp K H (.ref a) (dAsg rows) ∧
  cs.length ≤ 1000 ∧ InR cs.length gs ∧ ∀ H' p, Same H H' → Dp K H' (.ref p) (dI (loadsOf cs.length gs rows)) → Q (.ref p) H'
set_option maxHeartbeats 2000000 in
theorem ok_loads {f : Addr} {fd : FuncData} {k : Nat} (F : Fun K "post_loads" "post_loads" sLoads f fd) (ml : mg "len" = none) (mz : mg "zip" = none) (mt : mg "tuple" = none) :
    FnOk P w K mg base CX0 (k + 1) f fd ["instance", "assignment"] (spLoads K) := by
  refine F.ok scLoads (fun vs H Q E h => ?_) (fun cdv A outer s H vs Q E hr h => ?_)
  · obtain ⟨i, a, cs, gs, rows, rfl, _⟩ := h; rfl
  · obtain ⟨i, a, cs, gs, rows, rfl, hI, hA, hcs, hin, q⟩ := h
    refine ⟨_, pss_cons (ps_set (i := 2) scLoads.nd rfl (.inl rfl) (pe_op op_rep (pe_lst (pa_cons pe_int pa_nil)) (pe_callB call_len_seq (by rfl) ml PySem.boot_len (pa_cons (pe_ix ix_tup (pv 0) pe_int (fun _ _ => rfl)) pa_nil))))
      (pss_cons (ps_for PassesOwn.never rfl (RZ.pi_zipA (by rfl) mz (pa_cons (pe_ix ix_tup (pv 0) pe_int (fun _ _ => rfl)) (pa_cons (pv 1) pa_nil)))
          (pg_tup rfl (pgs_cons (pg_name (i := 3) scLoads.nd rfl (.inl rfl)) (pgs_cons (pg_name (i := 4) scLoads.nd rfl (.inl rfl)) pgs_nil)))
          (pss_one (ps_for PassesOwn.never rfl (RZ.pi_zipA (by rfl) mz (pa_cons (pe_ix ix_tup (pv 3) pe_int (fun _ _ => rfl)) (pa_cons (pv 4) pa_nil)))
            (pg_tup rfl (pgs_cons (pg_name (i := 5) scLoads.nd rfl (.inl rfl)) (pgs_cons (pg_name (i := 6) scLoads.nd rfl (.inl rfl)) pgs_nil)))
            (pss_one (ps_augS (pv 2) (pv 5) get_list (pv 6) ip_add set_list)))))
      (pss_one (ps_ret (pe_callTy call_tuple_of (by rfl) mt (by decide +kernel) (pa_cons (pv 2) pa_nil))))), ?_⟩
    obtain ⟨_, ca, ga, xs, e, hi, hc, hg, hgs⟩ := inst_open hI
    cases e
    obtain ⟨_, ys, e, ha, hrows⟩ := asg_open hA
    cases e
    -- loads = [0] * len(instance[0])
    refine ⟨by decide, fun p0 n0 => ⟨.ref i, rfl, i, _, 0, .ref ca, rfl, rfl, (TupK.new n0).sq hi, atI_nat (j := 0) rfl, ca, _, rfl, .inr ((TupK.new n0).sq hc), p0, _, _, rfl, rfl, upd_same, by omega, ?_, ?_, fun L nL => ?_⟩⟩
    · rw [List.length_map]; omega
    · rw [List.length_map]; show 1 * _ ≤ sizeLine; have := small (n := cs.length) (by omega); simp; omega
    have fL : H L = none := freeOf nL
    have s1 : Same H (upd (upd H p0 (.lst [.int 0])) L (.lst (List.replicate ((List.map V.int cs).length : Int).toNat [V.int 0]).flatten)) := samePut (sameNew n0) fL
    -- the groups
    refine ⟨.ref i, rfl, i, _, 1, .ref ga, rfl, rfl, (TupK.of s1).sq hi, atI_nat (j := 1) rfl, .ref a, rfl, ga, a, xs, ys, rfl, .inr ⟨(TupK.of s1).sq hg, (TupK.of s1).sq ha, for_it (walk_zipT (K := K) (a := ga) (b := a) (xs := xs) (ys := ys) rfl)
      (fun i' σ H2 => ∃ y3 y4 y5 y6, σ = [some (.ref i), some (.ref a), some (.ref L), y3, y4, y5, y6] ∧ Same H H2 ∧ H2 L = some (.lst ((loadsFrom (zeros cs.length) (gs.take i') (rows.take i')).map V.int)))
      ⟨none, none, none, none, rfl, s1, ?_⟩ ?_ ?_ ?_⟩⟩
    · rw [upd_same, zeros_V, List.length_map]; simp [loadsFrom]
    · rintro i' σ H2 _ ⟨y3, y4, y5, y6, rfl, s2, e2⟩
      exact ⟨(TupK.of s2).sq hg, (TupK.of s2).sq ha⟩
    · rintro i' v σ H2 H3 hlt ⟨y3, y4, y5, y6, rfl, s2, e2⟩ ⟨T, x, y, rfl, nT, rfl, hx, hy⟩
      have hx' : xs[i']? = some x := hx
      have hy' : ys[i']? = some y := hy
      obtain ⟨d, hd, hxd⟩ := DpAll.at hgs hx'
      rw [List.getElem?_map] at hd
      obtain ⟨g, hgi, rfl⟩ := Option.map_eq_some_iff.mp hd
      obtain ⟨d, hd, hyd⟩ := DpAll.at hrows hy'
      rw [List.getElem?_map] at hd
      obtain ⟨row, hri, rfl⟩ := Option.map_eq_some_iff.mp hd
      have s3 : Same H (upd H2 T (.tup [x, y])) := s2.trans (sameNew nT)
      obtain ⟨gA, pA, rfl, hG, hP⟩ := grp_ref hxd
      obtain ⟨rA, rfl, hR⟩ := dI_ref hyd
      have e3 : (upd H2 T (.tup [.ref gA, .ref rA])) L = some (.lst ((loadsFrom (zeros cs.length) (gs.take i') (rows.take i')).map V.int)) := upNew nT e2
      have tk3 := TupK.of s3
      refine ⟨T, _, rfl, SqT.of upd_same, rfl, _, _, rfl, _, _, rfl, rfl, ?_⟩
      refine ⟨.ref gA, rfl, gA, _, 0, .ref pA, rfl, rfl, tk3.sq hG, atI_nat (j := 0) rfl, .ref rA, rfl, pA, rA, _, _, rfl, .inr ⟨tk3.sq hP, tk3.sq hR, for_it (walk_zipT (K := K) (a := pA) (b := rA) (xs := g.1.map V.int) (ys := row.map V.int) rfl)
        (fun j σ H4 => ∃ y5 y6, σ = [some (.ref i), some (.ref a), some (.ref L), some (.ref gA), some (.ref rA), y5, y6] ∧ Same H H4 ∧
          H4 L = some (.lst ((rowLoads (loadsFrom (zeros cs.length) (gs.take i') (rows.take i')) (g.1.take j) (row.take j)).map V.int)))
        ⟨y5, y6, rfl, s3, by simpa [rowLoads] using e3⟩ ?_ ?_ ?_⟩⟩
      · rintro j σ H4 _ ⟨y5, y6, rfl, s4, e4⟩
        exact ⟨(TupK.of s4).sq hP, (TupK.of s4).sq hR⟩
      · rintro j v σ H4 H5 hltj ⟨y5, y6, rfl, s4, e4⟩ ⟨T2, x, y, rfl, nT2, rfl, hx2, hy2⟩
        have hx2' : (g.1.map V.int)[j]? = some x := hx2
        have hy2' : (row.map V.int)[j]? = some y := hy2
        rw [List.getElem?_map] at hx2' hy2'
        obtain ⟨pp, hpp, rfl⟩ := Option.map_eq_some_iff.mp hx2'
        obtain ⟨nn, hnn, rfl⟩ := Option.map_eq_some_iff.mp hy2'
        have e5 := upNew (o := .tup [.int pp, .int nn]) nT2 e4
        have hpr := (hin g (List.mem_of_getElem? hgi)).2 pp (List.mem_of_getElem? hpp)
        obtain ⟨pn, rfl⟩ : ∃ pn : Nat, pp = pn := ⟨pp.toNat, by omega⟩
        have hrl := rowLoads_take (ls := loadsFrom (zeros cs.length) (gs.take i') (rows.take i')) hpp hnn
        generalize hcur : rowLoads (loadsFrom (zeros cs.length) (gs.take i') (rows.take i')) (g.1.take j) (row.take j) = cur at e4 e5 hrl
        have hcl : cur.length = cs.length := by rw [← hcur, rowLoads_len, loadsFrom_len]; simp [zeros]
        have hpl : pn < cur.length := by omega
        refine ⟨T2, _, rfl, SqT.of upd_same, rfl, _, _, rfl, _, _, rfl, rfl, ?_⟩
        refine ⟨.ref L, rfl, .int pn, rfl, L, _, pn, .int cur[pn], rfl, rfl, SqL.of e5, by rw [List.getElem?_map, List.getElem?_eq_getElem hpl]; rfl, .int nn, rfl, _, _, rfl, rfl, L, _, _, pn, rfl, rfl, e5, ixN_nat (by rw [List.length_map]; exact hpl), ?_⟩
        refine ⟨_, _, rfl, samePut (s4.trans (sameNew nT2)) fL, ?_⟩
        rw [upd_same, hrl]
        unfold addAt
        rw [Int.toNat_natCast, List.getD_eq_getElem?_getD, List.getElem?_eq_getElem hpl, List.map_set]
        rfl
      · rintro σ H4 ⟨y5, y6, rfl, s4, e4⟩
        refine ⟨_, _, _, _, rfl, s4, ?_⟩
        rw [loadsFrom_take hgi hri]
        rw [List.length_map, List.length_map, rowLoads_all] at e4
        exact e4
    · rintro σ H2 ⟨y3, y4, y5, y6, rfl, s2, e2⟩
      rw [DpAll.len hgs, DpAll.len hrows, List.length_map, List.length_map, loadsFrom_all] at e2
      refine ⟨.ref L, rfl, L, _, rfl, .inl ⟨SqL.of e2, fun p np => q _ _ (s2.trans (sameNew np)) (dI_sq (SqT.of upd_same))⟩⟩
end
end Pv

namespace Pv
open PySem PySem.Spec PyProof.Rows L2
def Shp (gs : List Gp) (rows : List (List Int)) : Prop := rows.length = gs.length ∧ ∀ (i : Nat) (g : Gp) (row : List Int), gs[i]? = some g → rows[i]? = some row → row.length = g.1.length + 1
theorem zip_snoc {α β : Type} {a : List α} {b : List β} {i : Nat} {x : α} {y : β} (hx : a[i]? = some x) (hy : b[i]? = some y) : (a.take (i + 1)).zip (b.take (i + 1)) = (a.take i).zip (b.take i) ++ [(x, y)] := by
  rw [zip_take, zip_take, List.take_add_one]
  have : (a.zip b)[i]? = some (x, y) := by
    rw [List.getElem?_zip_eq_some]; exact ⟨hx, hy⟩
  rw [this]; rfl
def rowD (d : PyData) : List Int := (intsOf d).getD []
def isAD (cs : List Int) (gs : List Gp) : PyData → Bool
  | .tuple ds => decide (ds.length = gs.length) && ((gs.zip ds).all (fun q => shareD q.1 q.2) && ((loadsOf cs.length gs (ds.map rowD)).zip cs).all (fun q => decide (q.1 ≤ q.2)))
  | _ => false
theorem isAD_tup (cs : List Int) (gs : List Gp) (ds : List PyData) : isAD cs gs (.tuple ds) = (decide (ds.length = gs.length) && ((gs.zip ds).all (fun q => shareD q.1 q.2) && ((loadsOf cs.length gs (ds.map rowD)).zip cs).all (fun q => decide (q.1 ≤ q.2)))) := rfl
theorem shareD_row {g : Gp} {d : PyData} (h : shareD g d = true) : d = dI (rowD d) ∧ (rowD d).length = g.1.length + 1 ∧ shareOk g.2 (rowD d) = true := by
  unfold shareD at h
  cases e : intsOf d with
  | none => rw [e] at h; simp at h
  | some row =>
    rw [e] at h
    have hr : rowD d = row := by unfold rowD; rw [e]; rfl
    rw [hr]
    have h' : decide (row.length = g.1.length + 1) = true ∧ shareOk g.2 row = true := by simpa using h
    refine ⟨?_, of_decide_eq_true h'.1, h'.2⟩
    cases d with
    | tuple ds => have e' : intsAll ds = some row := e; rw [intsAll_eq e']; rfl
    | _ => simp [intsOf] at e
theorem rows_all : ∀ {gs : List Gp} {ds : List PyData}, ds.length = gs.length → (gs.zip ds).all (fun q => shareD q.1 q.2) = true → ds = (ds.map rowD).map dI
  | [], ds, hl, _ => by
    cases ds with
    | nil => rfl
    | cons d ds => simp at hl
  | g :: gs, ds, hl, h => by
    cases ds with
    | nil => rfl
    | cons d ds =>
      rw [List.zip_cons_cons, List.all_cons, Bool.and_eq_true] at h
      have e1 := (shareD_row h.1).1
      have e2 := rows_all (gs := gs) (ds := ds) (by simpa using hl) h.2
      rw [List.map_cons, List.map_cons, ← e1, ← e2]
theorem zip_at {gs : List Gp} {ds : List PyData} (h : (gs.zip ds).all (fun q => shareD q.1 q.2) = true) {i : Nat} {g : Gp} {d : PyData} (hg : gs[i]? = some g) (hd : ds[i]? = some d) : shareD g d = true := by
  have hm : (g, d) ∈ gs.zip ds := List.mem_of_getElem? (i := i) (by rw [List.getElem?_zip_eq_some]; exact ⟨hg, hd⟩)
  exact List.all_eq_true.mp h _ hm
abbrev sIA : Stmt := topS 6
theorem scIA : FnScope ["instance", "value", "capacities", "groups", "posts", "count", "share", "load", "capacity"] ["instance", "value"] (defScope sIA) := ⟨rfl, rfl, rfl, by decide +kernel, rfl, by decide +kernel, by decide +kernel⟩
section
variable {P : Program} {w : World} {K : PySem.W.Frag} {mg : Str → Option Value} {base : Heap}
def spIsA (K : PySem.W.Frag) : Sp := fun vs H Q _ => ∃ (st r i : Addr) (v : V) (cs : List Int) (gs : List Gp) (d : PyData), vs = [.ref i, v] ∧ Dp K H (.ref i) (dInst cs gs) ∧ Dq K st r H v d ∧
  cs.length ≤ 900 ∧ gs.length ≤ 900 ∧ InR cs.length gs ∧ (∀ g ∈ gs, g.1.length ≤ 900) ∧ ∀ H', Same H H' → Q (.bl (isAD cs gs d)) H'
set_option maxHeartbeats 2000000 in
theorem ok_IA {f fTo fSp fLo : Addr} {fd fdTo fdSp fdLo : FuncData} (F : Fun K "is_assignment" "is_assignment" sIA f fd)
    (FTo : Fun K "is_tuple_of" "is_tuple_of" sTupOf fTo fdTo) (bTo : Binds K fdTo ["value", "least", "most"] []) (gTo : mg "is_tuple_of" = some (.ref fTo)) (GTo : FnOk P w K mg base CX0 1 fTo fdTo ["value", "least", "most"] (spTupOf K))
    (FSp : Fun K "is_split" "is_split" sSp fSp fdSp) (bSp : Binds K fdSp ["value", "size", "total"] []) (gSp : mg "is_split" = some (.ref fSp)) (GSp : FnOk P w K mg base CX0 3 fSp fdSp ["value", "size", "total"] (spSplit K))
    (FLo : Fun K "post_loads" "post_loads" sLoads fLo fdLo) (bLo : Binds K fdLo ["instance", "assignment"] []) (gLo : mg "post_loads" = some (.ref fLo)) (GLo : FnOk P w K mg base CX0 1 fLo fdLo ["instance", "assignment"] (spLoads K))
    (m_len : mg "len" = none) (m_zip : mg "zip" = none) (m_all : mg "all" = none) :
    FnOk P w K mg base CX0 4 f fd ["instance", "value"] (spIsA K) := by
  refine F.ok scIA (fun vs H Q E h => ?_) (fun cdv A outer s H vs Q E hr h => ?_)
  · obtain ⟨st, r, i, v, cs, gs, d, rfl, _⟩ := h; rfl
  · obtain ⟨st, r, i, v, cs, gs, d, rfl, hI, hA, hcs, hgn, hin, hgl, q⟩ := h
    refine ⟨_, pss_cons (ps_asg (pv 0) (pg_tup rfl (pgs_cons (pg_name (i := 2) scIA.nd rfl (.inl rfl)) (pgs_cons (pg_name (i := 3) scIA.nd rfl (.inl rfl)) pgs_nil))))
      (pss_cons (ps_if (pt_not (pt_val (pe_call GTo (hr.mono (by omega)) (by rfl) gTo FTo.kp bTo .nil pass0 (pa_cons (pv 1) (pa_cons (pe_callB call_lenQ (by rfl) m_len PySem.boot_len (pa_cons (pv 3) pa_nil)) (pa_cons (pe_callB call_lenQ (by rfl) m_len PySem.boot_len (pa_cons (pv 3) pa_nil)) pa_nil))))))
        (pss_one (ps_ret (pe_bl))) pss_nil)
      (pss_cons (ps_if (pt_not (pt_val (pe_callB (cr_all rfl) (by rfl) m_all (by decide +kernel) (pa_cons (pe_lc (own := [("posts", 4), ("count", 5), ("share", 6)]) (g := gTup K 2 (gCons (gTup K 2 (gCons (gName 4) (gCons (gName 5) gNil))) (gCons (gName 6) gNil))) (tt := tYes) (te := tCall (spSplit K) [] E0 (tCons (tVar 6) (tCons (tOp (rI0 fun i j => .int (i + j)) (tCB (rLenQ K) (tCons (tVar 4) tNil)) (tC (.int 1))) (tCons (tVar 5) tNil)))) rfl scIA.nd (RZ.pi_zipA (by rfl) m_zip (pa_cons (pv 3) (pa_cons (pv 1) pa_nil))) (blkOk_by (N := ["instance", "value", "capacities", "groups", "posts", "count", "share", "load", "capacity"]) (sc := defScope sIA) (by decide +kernel)) (fun _ _ _ _ _ => pg_tup rfl (pgs_cons (pg_tup rfl (pgs_cons (pg_name (i := 4) scIA.nd rfl (.inl rfl)) (pgs_cons (pg_name (i := 5) scIA.nd rfl (.inl rfl)) pgs_nil))) (pgs_cons (pg_name (i := 6) scIA.nd rfl (.inl rfl)) pgs_nil))) (fun _ _ _ _ _ => pts_nil) (fun _ _ _ _ _ => pe_call GSp (hr.mono (by omega)) (by rfl) gSp FSp.kp bSp .nil pass0 (pa_cons (pv 6) (pa_cons (pe_op op_add (pe_callB call_lenQ (by rfl) m_len PySem.boot_len (pa_cons (pv 4) pa_nil)) (pe_int)) (pa_cons (pv 5) pa_nil))))) pa_nil))))
        (pss_one (ps_ret (pe_bl))) pss_nil)
      (pss_one (ps_ret (pe_callB (cr_all rfl) (by rfl) m_all (by decide +kernel) (pa_cons (pe_lc (own := [("load", 7), ("capacity", 8)]) (g := gTup K 2 (gCons (gName 7) (gCons (gName 8) gNil))) (tt := tYes) (te := tOp (rI0 fun i j => .bl (decide (i ≤ j))) (tVar 7) (tVar 8)) rfl scIA.nd (RZ.pi_zipA (by rfl) m_zip (pa_cons (pe_call GLo (hr.mono (by omega)) (by rfl) gLo FLo.kp bLo .nil pass0 (pa_cons (pv 0) (pa_cons (pv 1) pa_nil))) (pa_cons (pv 2) pa_nil))) (blkOk_by (N := ["instance", "value", "capacities", "groups", "posts", "count", "share", "load", "capacity"]) (sc := defScope sIA) (by decide +kernel)) (fun _ _ _ _ _ => pg_tup rfl (pgs_cons (pg_name (i := 7) scIA.nd rfl (.inl rfl)) (pgs_cons (pg_name (i := 8) scIA.nd rfl (.inl rfl)) pgs_nil))) (fun _ _ _ _ _ => pts_nil) (fun _ _ _ _ _ => pe_cmpR op_le (pv 7) (pv 8) (nomark _))) pa_nil)))))), ?_⟩
    obtain ⟨_, ca, ga, xs, e, hi, hc, hg, hgs⟩ := inst_open hI
    cases e
    have lx := DpAll.len hgs
    rw [List.length_map] at lx
    refine ⟨.ref i, rfl, i, _, rfl, hi, rfl, .ref ca, _, rfl, .ref ga, _, rfl, rfl, ?_⟩
    refine ⟨v, rfl, .ref ga, rfl, ga, xs, rfl, .inr hg, .ref ga, rfl, ga, xs, rfl, .inr hg, st, r, v, d, _, _, rfl, hA, ?_⟩
    rw [lx]
    cases hb : tupOfD (gs.length : Int) (gs.length : Int) d with
    | false =>
      refine ⟨_, rfl, iteT ?_⟩
      have e : isAD cs gs d = false := by
        cases d with
        | tuple ds =>
          have h1 := of_decide_eq_false hb
          have : ¬ ds.length = gs.length := by omega
          simp [isAD, this]
        | _ => rfl
      have := q H (Same.refl H)
      rw [e] at this
      exact this
    | true =>
    refine ⟨_, rfl, iteF ?_⟩
    cases d with
    | none | bool _ | int _ | str _ | list _ | dict _ => simp [tupOfD] at hb
    | tuple ds =>
    cases hA with
    | @tup a ys _ ha hds =>
    have ly := DqAll.len hds
    have hdl : ds.length = gs.length := by have := of_decide_eq_true hb; omega
    refine ⟨.ref ga, rfl, .ref a, rfl, ga, a, xs, ys, rfl, .inr ⟨hg, ha, fun D nD => lc_it (walk_zipT (K := K) (a := ga) (b := a) (xs := xs) (ys := ys) rfl)
      (fun j H2 => Same H H2 ∧ H2 D = some (.lst ((((gs.take j).zip (ds.take j)).map (fun q => shareD q.1 q.2)).map V.bl))) ⟨sameNew nD, upd_same⟩ (fun j H2 _ h2 => ⟨(TupK.of h2.1).sq hg, (TupK.of h2.1).sq ha⟩) ?_ ?_⟩⟩
    · rintro j v H2 H3 hlt ⟨s2, e2⟩ ⟨T, x, y, rfl, nT, rfl, hx, hy⟩
      have hx' : xs[j]? = some x := hx
      have hy' : ys[j]? = some y := hy
      obtain ⟨d, hd, hxd⟩ := DpAll.at hgs hx'
      rw [List.getElem?_map] at hd
      obtain ⟨g, hgi, rfl⟩ := Option.map_eq_some_iff.mp hd
      obtain ⟨dy, hdy, hyd⟩ := DqAll.at hds hy'
      obtain ⟨gA, pA, rfl, hG, hP⟩ := grp_ref hxd
      have s3 : Same H (upd H2 T (.tup [.ref gA, y])) := s2.trans (sameNew nT)
      have tk3 := TupK.of s3
      have hgl' := hgl g (List.mem_of_getElem? hgi)
      have hjl : j < gs.length := (List.getElem?_eq_some_iff.mp hgi).1
      refine ⟨T, _, rfl, SqT.of upd_same, rfl, _, _, rfl, gA, _, rfl, tk3.sq hG, rfl, _, _, rfl, _, _, rfl, rfl, _, _, rfl, rfl, rfl, y, rfl, .ref pA, rfl, pA, _, rfl, .inr (tk3.sq hP), _, _, rfl, rfl, .int g.2, rfl, st, r, y, dy, _, _, rfl, hyd.lasts (.of s3), by rw [List.length_map]; omega, fun H4 s4 => ⟨_, s4 _ _ (upNew nT e2), ?_, samePut (s3.trans s4) nD, ?_⟩⟩
      · rw [List.length_map, List.length_map, List.length_zip, List.length_take]; exact small (by omega)
      · rw [upd_same, zip_snoc hgi hdy, List.length_map, split_share]; simp
    · rintro H2 ⟨s2, e2⟩
      rw [lx, ly, zip_take, List.take_of_length_le (by rw [List.length_zip]; exact Nat.le_refl _)] at e2
      refine ⟨D, _, rfl, SqL.of e2, _, rfl, ?_⟩
      have tk2 := TupK.of s2
      cases hall : ((gs.zip ds).map (fun q => shareD q.1 q.2)).all id with
      | false =>
        have e : isAD cs gs (.tuple ds) = false := by
          rw [isAD_tup]
          rw [List.all_map] at hall
          rw [show (gs.zip ds).all (fun q => shareD q.1 q.2) = false from hall, Bool.false_and, Bool.and_false]
        have := q H2 s2
        rw [e] at this
        exact this
      | true =>
        rw [List.all_map] at hall
        have hall' : (gs.zip ds).all (fun q => shareD q.1 q.2) = true := hall
        have e : isAD cs gs (.tuple ds) = ((loadsOf cs.length gs (ds.map rowD)).zip cs).all (fun q => decide (q.1 ≤ q.2)) := by
          rw [isAD_tup, hall', Bool.true_and, decide_eq_true hdl, Bool.true_and]
        have hR := rows_all hdl hall'
        generalize hrw : ds.map rowD = rows at e hR
        have hA2 : Dp K H (.ref a) (dAsg rows) := by
          have : Dq K st r H (.ref a) (dAsg rows) := by unfold dAsg; rw [← hR]; exact .tup ha hds
          exact this.to_dp (to_dAsg rows)
        refine ⟨.ref i, rfl, .ref a, rfl, i, a, cs, gs, rows, rfl, tk2.dp _ _ (to_dInst _ _) hI, tk2.dp _ _ (to_dAsg _) hA2, by omega, hin, fun H3 p s3 hp => ?_⟩
        have sp := sq_dI hp
        have s03 := s2.trans s3
        have hc3 := (TupK.of s03).sq hc
        refine ⟨.ref ca, rfl, p, ca, _, _, rfl, .inr ⟨sp, hc3, fun D2 nD2 => lc_it (walk_zipT (K := K) (a := p) (b := ca) (xs := (loadsOf cs.length gs rows).map V.int) (ys := cs.map V.int) rfl)
          (fun j H4 => Same H3 H4 ∧ H4 D2 = some (.lst (((((loadsOf cs.length gs rows).take j).zip (cs.take j)).map (fun q => decide (q.1 ≤ q.2))).map V.bl))) ⟨sameNew nD2, upd_same⟩ (fun j H4 _ h4 => ⟨(TupK.of h4.1).sq sp, (TupK.of h4.1).sq hc3⟩) ?_ ?_⟩⟩
        · rintro j v H4 H5 hlt ⟨s4, e4⟩ ⟨T, x, y, rfl, nT, rfl, hx, hy⟩
          have hx' : ((loadsOf cs.length gs rows).map V.int)[j]? = some x := hx
          have hy' : (cs.map V.int)[j]? = some y := hy
          rw [List.getElem?_map] at hx' hy'
          obtain ⟨l, hl, rfl⟩ := Option.map_eq_some_iff.mp hx'
          obtain ⟨c, hcj, rfl⟩ := Option.map_eq_some_iff.mp hy'
          have hjl : j < cs.length := (List.getElem?_eq_some_iff.mp hcj).1
          refine ⟨T, _, rfl, SqT.of upd_same, rfl, _, _, rfl, _, _, rfl, rfl, rfl, .int l, rfl, .int c, rfl, _, _, rfl, rfl, _, upNew nT e4, ?_, samePut (s4.trans (sameNew nT)) nD2, ?_⟩
          · rw [List.length_map, List.length_map, List.length_zip, List.length_take, List.length_take]; exact small (by omega)
          · rw [upd_same, zip_snoc hl hcj]; simp
        · rintro H4 ⟨s4, e4⟩
          rw [List.length_map, List.length_map, zip_take, List.take_of_length_le (by rw [List.length_zip]; exact Nat.le_refl _)] at e4
          refine ⟨D2, _, rfl, SqL.of e4, ?_⟩
          have := q H4 (s03.trans s4)
          rw [e] at this
          rw [List.all_map]
          exact this
end
end Pv

namespace Pv
open PySem PySem.Spec PyProof.Rows L2
abbrev sStart : Stmt := topS 23
abbrev sFar : Stmt := topS 26
theorem scStart : FnScope ["_law_script", "_law_cells", "_law_cell"] ["_law_script"] (defScope sStart) := ⟨rfl, rfl, rfl, by decide +kernel, rfl, by decide +kernel, by decide +kernel⟩
theorem scFar : FnScope ["_law_state", "_law_most", "_law_small"] ["_law_state", "_law_most"] (defScope sFar) := ⟨rfl, rfl, rfl, by decide +kernel, rfl, by decide +kernel, by decide +kernel⟩
theorem take_snoc {α : Type} {l : List α} {i : Nat} {x : α} (h : l[i]? = some x) : l.take (i + 1) = l.take i ++ [x] := by rw [List.take_add_one, h]; rfl
theorem cut_to (xs : List V) (n : Nat) : cutV xs none (some (n : Int)) = xs.take n := by
  unfold cutV
  rw [HT.sIx_none, HT.sIx_nat, List.drop_zero, Nat.sub_zero]
  by_cases h : n ≤ xs.length
  · rw [Nat.min_eq_left h]
  · rw [Nat.min_eq_right (by omega), List.take_length, List.take_of_length_le (by omega)]
def absI (i : Int) : Int := if i < 0 then -i else i
theorem absI_nn (i : Int) : 0 ≤ absI i := by unfold absI; split <;> omega
def restI (c : Int) : Int := c * (if decide ((10 : Int) ^ (18 : Int).toNat ≤ c) = true then 1 else 0)
theorem restI_nn {c : Int} (h : 0 ≤ c) : 0 ≤ restI c := by unfold restI; split <;> omega
section
variable {P : Program} {w : World} {K : PySem.W.Frag} {mg : Str → Option Value} {base : Heap}
def spStart (K : PySem.W.Frag) : Sp := fun vs H Q _ => ∃ (a : Addr) (ns : List Int), vs = [.ref a] ∧ SqL K H a (ns.map V.int) ∧ ns.length ≤ 63 ∧
  ∀ H' st c r, Same H H' → DS H' st c r 0 → Q (.ref st) H'
set_option maxHeartbeats 2000000 in
theorem ok_start {f : Addr} {fd : FuncData} {k : Nat} (F : Fun K "_law_start" "_law_start" sStart f fd) (ma : mg "abs" = none) (mi : mg "int" = none) (ml : mg "len" = none) :
    FnOk P w K mg base CX0 (k + 1) f fd ["_law_script"] (spStart K) := by
  refine F.ok scStart (fun vs H Q E h => ?_) (fun cdv A outer s H vs Q E hr h => ?_)
  · obtain ⟨a, ns, rfl, _⟩ := h; rfl
  · obtain ⟨a, ns, rfl, hS, hn, q⟩ := h
    refine ⟨_, pss_cons (ps_set (i := 1) scStart.nd rfl (.inl rfl) (pe_op op_cat
        (pe_lc (own := [("_law_cell", 2)]) (g := gName 2) (tt := tYes) rfl scStart.nd (pi_list (pe_slice sl_list (pv 0) po_none (po_some pe_int))) (blkOk_by (N := ["_law_script", "_law_cells", "_law_cell"]) (sc := defScope sStart) (by decide +kernel))
            (fun _ _ _ _ _ => pg_name (i := 2) scStart.nd rfl (.inl rfl)) (fun _ _ _ _ _ => pts_nil)
            (fun _ _ _ _ _ => pe_callB call_abs (by rfl) ma (by decide +kernel) (pa_cons (pv 2) pa_nil)))
        (pe_op op_rep (pe_lst (pa_cons pe_int pa_nil)) (pe_callTy call_int1 (by rfl) mi (by decide +kernel) (pa_cons (pe_cmpR op_eq (pe_callB call_len_seq (by rfl) ml PySem.boot_len (pa_cons (pv 0) pa_nil)) pe_int (nomark _)) pa_nil)))))
      (pss_one (ps_ret (pe_lst (pa_cons (pv 1) (pa_cons
        (pe_lc (own := [("_law_cell", 2)]) (g := gName 2) (tt := tYes) rfl scStart.nd (pi_list (pv 1)) (blkOk_by (N := ["_law_script", "_law_cells", "_law_cell"]) (sc := defScope sStart) (by decide +kernel))
            (fun _ _ _ _ _ => pg_name (i := 2) scStart.nd rfl (.inl rfl)) (fun _ _ _ _ _ => pts_nil)
            (fun _ _ _ _ _ => pe_op op_mul (pv 2) (pe_callTy call_int1 (by rfl) mi (by decide +kernel) (pa_cons (pe_cmpR op_ge (pv 2) (pe_op op_pow pe_int pe_int) (nomark _)) pa_nil))))
        (pa_cons pe_int pa_nil)))))), ?_⟩
    have hcut : cutV (ns.map V.int) none (some 60) = (ns.take 60).map V.int := by rw [List.map_take]; exact cut_to _ 60
    refine ⟨.ref a, rfl, 60, rfl, a, _, rfl, hS, fun p np => ⟨p, rfl, ⟨_, SqL.of upd_same⟩, fun D nD => lc_list (xs := cutV (ns.map V.int) none (some 60))
      (fun j H2 => Same (upd H p (.lst (cutV (ns.map V.int) none (some 60)))) H2 ∧ H2 D = some (.lst ((((ns.take 60).map absI).take j).map V.int)))
      ⟨sameNew nD, upd_same⟩ (fun j H2 _ h2 => SqL.of (h2.1 _ _ upd_same)) ?_ ?_⟩⟩
    · rintro j x H2 hx ⟨s2, e2⟩
      rw [hcut, List.getElem?_map] at hx
      obtain ⟨z, hz, rfl⟩ := Option.map_eq_some_iff.mp hx
      refine ⟨rfl, .int z, rfl, z, rfl, _, e2, ?_, samePut s2 nD, ?_⟩
      · rw [List.length_map, List.length_take]; simp; exact small (by omega)
      · rw [upd_same, take_snoc (show ((ns.take 60).map absI)[j]? = some (absI z) by rw [List.getElem?_map, hz]; rfl), List.map_append]; rfl
    · rintro H2 ⟨s2, e2⟩
      rw [hcut, List.length_map, List.take_of_length_le (by simp)] at e2
      have s02 : Same H H2 := (sameNew np).trans s2
      -- [13] * int(len(script) == 0)
      refine ⟨by decide, fun p1 n1 => ⟨.ref a, rfl, a, _, rfl, .inl (((s02.trans (sameNew n1))).seq hS), rfl, .inr ⟨_, rfl, p1, _, _, rfl, rfl, upd_same, by split <;> decide, by split <;> decide, by split <;> decide, fun p2 n2 => ?_⟩⟩⟩
      generalize hb : decide (V.int ((List.map V.int ns).length : Int) = V.int 0) = b at n2 ⊢
      have e2' := upNew n2 (o := .lst (List.replicate (if b = true then (1 : Int) else 0).toNat [V.int 13]).flatten) (upNew n1 (o := .lst [.int 13]) e2)
      have hl0 : ns.length = 0 ↔ b = true := by
        rw [← hb, decide_eq_true_eq, List.length_map]
        constructor
        · intro h; rw [h]; rfl
        · intro h; have := V.int.inj h; omega
      have hrep : (List.replicate (if b = true then (1 : Int) else 0).toNat [V.int 13]).flatten = ((if b = true then [13] else []) : List Int).map V.int := by
        cases b <;> rfl
      refine ⟨D, p2, _, _, rfl, rfl, e2', upd_same, ?_, fun C nC => ?_⟩
      · rw [hrep, List.length_map, List.length_map, List.length_map, List.length_take]; have : (if b = true then [13] else [] : List Int).length ≤ 1 := by split <;> simp
        have h5 := small (n := 100) (by omega); omega
      rw [hrep, ← List.map_append] at *
      generalize hcl : (List.take 60 ns).map absI ++ (if b = true then [13] else []) = cells
      have hnn : ∀ c ∈ cells, 0 ≤ c := by
        intro c hc
        rw [← hcl, List.mem_append] at hc
        rcases hc with h | h
        · obtain ⟨i, _, rfl⟩ := List.mem_map.mp h; exact absI_nn i
        · split at h
          · simp at h; omega
          · simp at h
      have hcl0 : 0 < cells.length ∧ cells.length ≤ 61 := by
        rw [← hcl, List.length_append, List.length_map, List.length_take]
        by_cases hb1 : b = true
        · rw [if_pos hb1]; simp; omega
        · rw [if_neg hb1]
          have : ns.length ≠ 0 := fun z => hb1 (hl0.mp z)
          simp; omega
      generalize hHC : upd (upd (upd H2 p1 (.lst [.int 13])) p2 (.lst (((if b = true then [13] else []) : List Int).map V.int))) C (.lst (cells.map V.int)) = HC
      have eC : HC C = some (.lst (cells.map V.int)) := by rw [← hHC]; exact upd_same
      have s0C : Same H HC := by rw [← hHC]; exact ((s02.trans (sameNew n1)).trans (sameNew n2)).trans (sameNew nC)
      refine ⟨.ref C, rfl, .ref C, rfl, C, rfl, ⟨_, SqL.of eC⟩, fun R nR => lc_list (xs := cells.map V.int)
        (fun j H3 => Same HC H3 ∧ H3 R = some (.lst (((cells.map restI).take j).map V.int))) ⟨sameNew nR, upd_same⟩ (fun j H3 _ h3 => SqL.of (h3.1 _ _ eC)) ?_ ?_⟩
      · rintro j x H3 hx ⟨s3, e3⟩
        rw [List.getElem?_map] at hx
        obtain ⟨z, hz, rfl⟩ := Option.map_eq_some_iff.mp hx
        refine ⟨rfl, .int z, rfl, .int z, rfl, _, _, rfl, rfl, ⟨by decide, by decide, by decide⟩, _, _, rfl, rfl, .inr ⟨_, rfl, _, _, rfl, rfl, .inr ⟨by split <;> decide, by split <;> decide⟩, _, e3, ?_, samePut s3 nR, ?_⟩⟩
        · rw [List.length_map, List.length_take, List.length_map]; exact small (by omega)
        · rw [upd_same, List.take_add_one, List.getElem?_map, hz]; simp [restI]
      · rintro H3 ⟨s3, e3⟩
        rw [List.length_map, List.take_of_length_le (by rw [List.length_map]; exact Nat.le_refl _)] at e3
        refine ⟨(show (3 : Nat) ≤ sizeLine by decide), fun st nst => q _ st C R ((s0C.trans s3).trans (sameNew nst)) ⟨upd_same, ⟨cells, cells.map restI, upNew nst (s3 _ _ eC), upNew nst e3, by rw [List.length_map], hcl0.1, by omega, ?_⟩, ne_of_none eC nR, ?_, ?_⟩⟩
        · intro x hx
          obtain ⟨c, hc, rfl⟩ := List.mem_map.mp hx
          exact restI_nn (hnn c hc)
        · exact (ne_of_none (s3 _ _ eC) nst).symm
        · exact (ne_of_none e3 nst).symm
def spFar : Sp := fun vs H Q _ => ∃ (st c r : Addr) (t : Nat) (m : Int), vs = [.ref st, .int m] ∧ DS H st c r t ∧ t + 3 ≤ 1000000 ∧ 0 ≤ m ∧ m ≤ 2 ^ 50 ∧
  ∀ (H' : Hp) (d : Int), 0 ≤ d → d ≤ m → DS H' st c r (t + 3) → Ext st r H H' → Q (.int d) H'
set_option maxHeartbeats 2000000 in
theorem ok_far {f fD : Addr} {fd fdD : FuncData} {k : Nat} (F : Fun K "_law_far_amount" "_law_far_amount" sFar f fd)
    (FD : Fun K "_law_draw" "_law_draw" sDraw fD fdD) (bD : Binds K fdD ["_law_state", "_law_below"] []) (gD : mg "_law_draw" = some (.ref fD)) (GD : FnOk P w K mg base CX0 1 fD fdD ["_law_state", "_law_below"] spDraw)
    (mm : mg "min" = none) : FnOk P w K mg base CX0 (1 + k + 1) f fd ["_law_state", "_law_most"] spFar := by
  refine F.ok scFar (fun vs H Q E h => ?_) (fun cdv A outer s H vs Q E hr h => ?_)
  · obtain ⟨st, c, r, t, m, rfl, _⟩ := h; rfl
  · obtain ⟨st, c, r, t, m, rfl, hd, ht, hm, hm2, q⟩ := h
    refine ⟨_, pss_cons (ps_set (i := 2) scFar.nd rfl (.inl rfl) (pe_call GD (hr.mono (by omega)) (by rfl) gD FD.kp bD .nil pass0 (pa_cons (pv 0) (pa_cons (pe_op op_add (pe_callB (call_min2 rfl) (by rfl) mm (by decide +kernel) (pa_cons (pv 1) (pa_cons pe_int pa_nil))) pe_int) pa_nil))))
      (pss_one (ps_ret (pe_ix ix_list (pe_lst (pa_cons (pv 2) (pa_cons (pe_op op_sub (pv 1) (pv 2)) (pa_cons (pe_call GD (hr.mono (by omega)) (by rfl) gD FD.kp bD .nil pass0 (pa_cons (pv 0) (pa_cons (pe_op op_add (pv 1) pe_int) pa_nil))) pa_nil))))
        (pe_call GD (hr.mono (by omega)) (by rfl) gD FD.kp bD .nil pass0 (pa_cons (pv 0) (pa_cons pe_int pa_nil))) (fun _ _ => rfl)))), ?_⟩
    refine ⟨.ref st, rfl, .int m, rfl, _, _, rfl, _, _, rfl, rfl, st, c, r, t, _, rfl, hd, by omega, by split <;> omega, by split <;> omega, fun H1 d1 h1 h1' D1 X1 => ?_⟩
    have hd1 : d1 ≤ m := by split at h1' <;> omega
    refine ⟨.int d1, rfl, .int m, rfl, .int d1, rfl, _, _, rfl, rfl, .ref st, rfl, .int m, rfl, _, _, rfl, rfl, st, c, r, t + 1, _, rfl, D1, by omega, by omega, by omega, fun H2 d2 h2 h2' D2 X2 => ?_⟩
    refine ⟨(show (3 : Nat) ≤ sizeLine by decide), fun L nL => ⟨.ref st, rfl, st, c, r, t + 1 + 1, _, rfl, D2.new nL, by omega, by omega, by omega, fun H3 d3 h3 h3' D3 X3 => ?_⟩⟩
    have off := D2.off nL
    have eL : H3 L = some (.lst [.int d1, .int (m - d1), .int d2]) := X3 L _ upd_same off.1 off.2.2
    have XX : Ext st r H H3 := ((X1.trans X2).trans (Ext.of (sameNew nL))).trans X3
    obtain h | h | h : d3 = 0 ∨ d3 = 1 ∨ d3 = 2 := by omega
    · subst h
      exact ⟨L, _, _, _, rfl, rfl, SqL.of eL, atI_nat (j := 0) rfl, q _ _ h1 hd1 D3 XX⟩
    · subst h
      exact ⟨L, _, _, _, rfl, rfl, SqL.of eL, atI_nat (j := 1) rfl, q _ _ (by omega) (by omega) D3 XX⟩
    · subst h
      exact ⟨L, _, _, _, rfl, rfl, SqL.of eL, atI_nat (j := 2) rfl, q _ _ h2 (by omega) D3 XX⟩
end
end Pv

namespace Pv
open PySem PySem.Spec PyProof.Rows L2
abbrev sAsg : Stmt := topS 27
theorem scAsg : FnScope ["_law_state", "_law_instance_here", "_law_places", "_law_found", "_law_posts", "_law_count", "_law_numbers", "_law_post", "_law_number"] ["_law_state", "_law_instance_here"] (defScope sAsg) := ⟨rfl, rfl, rfl, by decide +kernel, rfl, by decide +kernel, by decide +kernel⟩
structure InsOk (cs : List Int) (gs : List Gp) : Prop where
  c1 : 1 ≤ cs.length
  c6 : cs.length ≤ 6
  cb : ∀ c ∈ cs, 1 ≤ c ∧ c ≤ 10 ^ 12
  g1 : 1 ≤ gs.length
  g10 : gs.length ≤ 10
  gp : ∀ g ∈ gs, g.1.length ≤ 6 ∧ (∀ p ∈ g.1, 0 ≤ p ∧ p < (cs.length : Int)) ∧ 1 ≤ g.2 ∧ g.2 ≤ 10 ^ 12
def Bd (rows : List (List Int)) : Prop := ∀ row ∈ rows, ∀ x ∈ row, 0 ≤ x ∧ x ≤ 10 ^ 12
theorem Shp.snoc {gs : List Gp} {rows : List (List Int)} {i : Nat} {g : Gp} {row : List Int} (h : Shp (gs.take i) rows) (hg : gs[i]? = some g) (hr : row.length = g.1.length + 1) : Shp (gs.take (i + 1)) (rows ++ [row]) := by
  have hil : i < gs.length := (List.getElem?_eq_some_iff.mp hg).1
  have hl : rows.length = i := by rw [h.1, List.length_take]; omega
  rw [take_snoc hg]
  refine ⟨by simp [hl]; omega, ?_⟩
  intro j g' row' h1 h2
  by_cases hj : j < i
  · rw [List.getElem?_append_left (by rw [List.length_take]; omega)] at h1
    rw [List.getElem?_append_left (by omega)] at h2
    exact h.2 j g' row' h1 h2
  · rw [List.getElem?_append_right (by omega)] at h2
    rw [List.getElem?_append_right (by rw [List.length_take]; omega)] at h1
    have e : j - rows.length = 0 := by
      have := (List.getElem?_eq_some_iff.mp h2).1; simp at this; omega
    have e1 : j - (gs.take i).length = 0 := by rw [List.length_take]; omega
    rw [e] at h2; rw [e1] at h1
    simp at h1 h2
    rw [← h1, ← h2]; exact hr
theorem ExtPut {st r p : Addr} {H H1 : Hp} {o : HO} (x : Ext st r H H1) (np : H p = none) : Ext st r H (upd H1 p o) := fun b z e n1 n2 => by rw [upd_ne (ne_of_none e np)]; exact x b z e n1 n2
section
variable {P : Program} {w : World} {K : PySem.W.Frag} {mg : Str → Option Value} {base : Heap}
theorem rowLoads_snoc {ls ps row : List Int} {j : Nat} {p x : Int} (hp : ps[j]? = some p) (hl : row.length = j) : rowLoads ls (ps.take (j + 1)) (row ++ [x]) = addAt (rowLoads ls (ps.take j) row) p x := by
  have l1 := (List.getElem?_eq_some_iff.mp hp).1
  unfold rowLoads
  rw [take_snoc hp, List.zip_append (by rw [List.length_take]; omega), List.foldl_append]
  rfl
theorem rowLoads_more {ls ps row : List Int} {x : Int} (hl : row.length = ps.length) : rowLoads ls ps (row ++ [x]) = rowLoads ls ps row := by
  unfold rowLoads
  congr 1
  have := List.zip_append (l₁ := ps) (r₁ := []) (l₂ := row) (r₂ := [x]) hl.symm
  simpa using this
theorem loadsFrom_snoc {ls : List Int} {gs : List Gp} {rows : List (List Int)} {i : Nat} {g : Gp} {row : List Int} (hg : gs[i]? = some g) (hl : rows.length = i) : loadsFrom ls (gs.take (i + 1)) (rows ++ [row]) = rowLoads (loadsFrom ls (gs.take i) rows) g.1 row := by
  have l1 := (List.getElem?_eq_some_iff.mp hg).1
  unfold loadsFrom
  rw [take_snoc hg, List.zip_append (by rw [List.length_take]; omega), List.foldl_append]
  rfl
theorem addAt_get {ls : List Int} {p : Nat} {x : Int} (hp : p < ls.length) (k : Nat) : (addAt ls (p : Int) x).getD k 0 = if k = p then ls.getD p 0 + x else ls.getD k 0 := by
  unfold addAt
  rw [Int.toNat_natCast]
  simp only [List.getD_eq_getElem?_getD, List.getElem?_set]
  by_cases h : p = k
  · subst h; simp [hp]
  · have h' : ¬ k = p := fun z => h z.symm
    simp [h, h']
def Held (cs : List Int) (gs : List Gp) (rows : List (List Int)) : Prop := isAD cs gs (dAsg rows) = true
theorem held_mk {cs : List Int} {gs : List Gp} {rows : List (List Int)} {pls : List Int} (sh : Shp gs rows) (bd : ∀ row ∈ rows, ∀ x ∈ row, 0 ≤ x) (hs : ∀ (k : Nat) (g : Gp) (row : List Int), gs[k]? = some g → rows[k]? = some row → row.sum = g.2)
    (hp : ∀ x ∈ pls, 0 ≤ x) (hl : pls.length = cs.length) (hq : ∀ p, p < cs.length → pls.getD p 0 + (loadsFrom (zeros cs.length) gs rows).getD p 0 = cs.getD p 0) : Held cs gs rows := by
  unfold Held dAsg
  rw [isAD_tup]
  have hrow : (rows.map dI).map rowD = rows := by
    rw [List.map_map]
    conv => rhs; rw [← List.map_id rows]
    exact List.map_congr_left fun r _ => by simp [rowD, intsOf, dI, intsAll_ints]
  rw [List.length_map, decide_eq_true sh.1, Bool.true_and, Bool.and_eq_true, List.all_eq_true, List.all_eq_true]
  constructor
  · rintro ⟨g, d⟩ hm
    obtain ⟨k, hk⟩ := List.mem_iff_getElem?.mp hm
    rw [List.getElem?_zip_eq_some] at hk
    obtain ⟨hg, hd⟩ := hk
    rw [List.getElem?_map] at hd
    obtain ⟨row, hr, rfl⟩ := Option.map_eq_some_iff.mp hd
    have hb := bd row (List.mem_of_getElem? hr)
    have hsum := hs k g row hg hr
    show shareD g (dI row) = true
    rw [shareD_dI, decide_eq_true (sh.2 k g row hg hr), Bool.true_and]
    unfold shareOk
    rw [Bool.and_eq_true, List.all_eq_true]
    have key : ∀ (l : List Int), (∀ x ∈ l, 0 ≤ x) → 0 ≤ l.sum ∧ ∀ x ∈ l, x ≤ l.sum := by
      intro l
      induction l with
      | nil => intro _; simp
      | cons a l ih =>
        intro h
        obtain ⟨h0, h1⟩ := ih fun x hx => h x (by simp [hx])
        have ha := h a (by simp)
        rw [List.sum_cons]
        refine ⟨by omega, fun x hx => ?_⟩
        rcases List.mem_cons.mp hx with rfl | hx
        · omega
        · have := h1 x hx; omega
    refine ⟨fun x hx => decide_eq_true ⟨hb x hx, ?_⟩, decide_eq_true hsum⟩
    rw [← hsum]
    exact (key row hb).2 x hx
  · rintro ⟨l, c⟩ hm
    rw [hrow] at hm
    obtain ⟨k, hk⟩ := List.mem_iff_getElem?.mp hm
    rw [List.getElem?_zip_eq_some] at hk
    obtain ⟨h1, h2⟩ := hk
    have hkl : k < cs.length := (List.getElem?_eq_some_iff.mp h2).1
    have e := hq k hkl
    have h1' : (loadsFrom (zeros cs.length) gs rows)[k]? = some l := h1
    simp only [List.getD_eq_getElem?_getD] at e
    rw [h1', h2, List.getElem?_eq_getElem (by omega)] at e
    have := hp _ (List.getElem_mem (l := pls) (n := k) (by omega))
    simp at e
    exact decide_eq_true (by show l ≤ c; omega)
def spAsg (K : PySem.W.Frag) : Sp := fun vs H Q _ => ∃ (st c r i : Addr) (t : Nat) (cs : List Int) (gs : List Gp), vs = [.ref st, .ref i] ∧ DS H st c r t ∧ t + 200 ≤ 1000000 ∧ Dp K H (.ref i) (dInst cs gs) ∧ InsOk cs gs ∧
  ∀ (H' : Hp) (p : Addr) (t' : Nat) (rows : List (List Int)), DS H' st c r t' → t' ≤ t + 200 → Ext st r H H' → Dp K H' (.ref p) (dAsg rows) → Shp gs rows → Bd rows → (∀ (k : Nat) (g : Gp) (row : List Int), gs[k]? = some g → rows[k]? = some row → row.sum = g.2) → Held cs gs rows → Q (.ref p) H'
set_option maxHeartbeats 4000000 in
theorem ok_asg {f fF : Addr} {fd fdF : FuncData} {k : Nat} (F : Fun K "_law_assignment" "_law_assignment" sAsg f fd)
    (FF : Fun K "_law_far_amount" "_law_far_amount" sFar fF fdF) (bF : Binds K fdF ["_law_state", "_law_most"] []) (gF : mg "_law_far_amount" = some (.ref fF)) (GF : FnOk P w K mg base CX0 2 fF fdF ["_law_state", "_law_most"] spFar)
    (mli : mg "list" = none) (mm : mg "min" = none) (mt : mg "tuple" = none) : FnOk P w K mg base CX0 (2 + k + 1) f fd ["_law_state", "_law_instance_here"] (spAsg K) := by
  refine F.ok scAsg (fun vs H Q E h => ?_) (fun cdv A outer s H vs Q E hr h => ?_)
  · obtain ⟨st, c, r, i, t, cs, gs, rfl, _⟩ := h; rfl
  · obtain ⟨st, c, r, i, t, cs, gs, rfl, hd, ht, hI, ok, q⟩ := h
    refine ⟨_, pss_cons (ps_set (i := 2) scAsg.nd rfl (.inl rfl) (pe_callTy call_list_of (by rfl) mli (by decide +kernel) (pa_cons (pe_ix ix_tup (pv 1) pe_int (fun _ _ => rfl)) pa_nil)))
      (pss_cons (ps_set (i := 3) scAsg.nd rfl (.inl rfl) (pe_lst pa_nil))
      (pss_cons (ps_for PassesOwn.never rfl (pi_tup (pe_ix ix_tup (pv 1) pe_int (fun _ _ => rfl))) (pg_tup rfl (pgs_cons (pg_name (i := 4) scAsg.nd rfl (.inl rfl)) (pgs_cons (pg_name (i := 5) scAsg.nd rfl (.inl rfl)) pgs_nil)))
        (pss_cons (ps_set (i := 6) scAsg.nd rfl (.inl rfl) (pe_lst pa_nil))
        (pss_cons (ps_for PassesOwn.never rfl (pi_tup (pv 4)) (pg_name (i := 7) scAsg.nd rfl (.inl rfl))
          (pss_cons (ps_set (i := 8) scAsg.nd rfl (.inl rfl) (pe_call GF (hr.mono (by omega)) (by rfl) gF FF.kp bF .nil pass0 (pa_cons (pv 0) (pa_cons (pe_callB (call_min2 rfl) (by rfl) mm (by decide +kernel) (pa_cons (pe_ix ix_list (pv 2) (pv 7) (fun _ _ => rfl)) (pa_cons (pv 5) pa_nil))) pa_nil))))
          (pss_cons (ps_asg (pe_op op_sub (pe_ix ix_list (pv 2) (pv 7) (fun _ _ => rfl)) (pv 8)) (pg_sub (pv 2) (pv 7) set_list))
          (pss_cons (ps_set (i := 5) scAsg.nd rfl (.inl rfl) (pe_op op_sub (pv 5) (pv 8)))
          (pss_one (ps_expr (pe_bm PySem.F.plainAttrs_list PySem.F.slot_list_append PySem.F.type_list_append mt_append (pv 6) (pa_cons (pv 8) pa_nil))))))))
        (pss_one (ps_expr (pe_bm PySem.F.plainAttrs_list PySem.F.slot_list_append PySem.F.type_list_append mt_append (pv 3) (pa_cons (pe_op op_catA (pe_callTy call_tuple_of (by rfl) mt (by decide +kernel) (pa_cons (pv 6) pa_nil)) (pe_tup (pa_cons (pv 5) pa_nil))) pa_nil))))))
      )
      (pss_one (ps_ret (pe_callTy call_tuple_of (by rfl) mt (by decide +kernel) (pa_cons (pv 3) pa_nil)))))), ?_⟩
    obtain ⟨_, ca, ga, xs, e, hi, hc, hg, hgs⟩ := inst_open hI
    cases e
    have lx := DpAll.len hgs
    rw [List.length_map] at lx
    -- places = list(instance[0]); found = []
    refine ⟨.ref i, rfl, i, _, 0, .ref ca, rfl, rfl, hi, atI_nat (j := 0) rfl, ca, _, rfl, .inr hc, fun Pl nPl => ⟨Nat.zero_le _, fun Fo nFo => ?_⟩⟩
    have oPl := hd.off nPl
    have d1 := (hd.new nPl (o := .lst (cs.map V.int))).new nFo (o := .lst [])
    have oFo := (hd.new nPl (o := .lst (cs.map V.int))).off nFo
    have fFo : H Fo = none := freeOf nFo
    have nPF : Pl ≠ Fo := ne_of_none upd_same nFo
    have s1 : Same H (upd (upd H Pl (.lst (cs.map V.int))) Fo (.lst [])) := (sameNew nPl).trans (sameNew nFo)
    refine ⟨.ref i, rfl, i, _, 1, .ref ga, rfl, rfl, (TupK.of s1).sq hi, atI_nat (j := 1) rfl, ga, rfl, ⟨_, (TupK.of s1).sq hg⟩, for_it (walk_tup (K := K) (a := ga) (xs := xs))
      (fun i' σ H2 => ∃ y4 y5 y6 y7 y8 t' pls vs rows, σ = [some (.ref st), some (.ref i), some (.ref Pl), some (.ref Fo), y4, y5, y6, y7, y8] ∧ DS H2 st c r t' ∧ t' ≤ t + 18 * i' ∧ Ext st r H H2 ∧
        H2 Pl = some (.lst (List.map V.int pls)) ∧ pls.length = cs.length ∧ (∀ x ∈ pls, 0 ≤ x ∧ x ≤ 10 ^ 12) ∧ H2 Fo = some (.lst vs) ∧ DpAll K H2 vs (List.map dI rows) ∧ Shp (gs.take i') rows ∧ Bd rows ∧ (∀ p, p < cs.length → pls.getD p 0 + (loadsFrom (zeros cs.length) (gs.take i') rows).getD p 0 = cs.getD p 0) ∧ ∀ (k : Nat) (g : Gp) (row : List Int), (gs.take i')[k]? = some g → rows[k]? = some row → row.sum = g.2)
      ⟨none, none, none, none, none, t, cs, [], [], rfl, d1, by omega, Ext.of s1, upNew nFo upd_same, rfl, fun x hx => ⟨by have := (ok.cb x hx).1; omega, (ok.cb x hx).2⟩, upd_same, .nil, ⟨by simp, by intro j g row h; simp at h⟩, (fun row h => by simp at h), (fun p hp => by simp [loadsFrom, zeros, List.getD_eq_getElem?_getD, hp]), fun k g row h => by simp at h⟩ ?_ ?_ ?_⟩
    · rintro i' σ H2 _ ⟨y4, y5, y6, y7, y8, t', pls, vs, rows, rfl, d2, _, x2, _⟩
      exact (x2.tup hd).sq hg
    · rintro i' v σ H2 H3 hlt ⟨y4, y5, y6, y7, y8, t', pls, vs, rows, rfl, d2, ht2, x2, eP, lP, bP, eF, hvs, hsh, hbd, hld, hsm⟩ ⟨rfl, hx⟩
      obtain ⟨d, hdd, hxd⟩ := DpAll.at hgs hx
      rw [List.getElem?_map] at hdd
      obtain ⟨g, hgi, rfl⟩ := Option.map_eq_some_iff.mp hdd
      obtain ⟨gA, pA, rfl, hG, hP⟩ := grp_ref hxd
      have tk2 := x2.tup hd
      obtain ⟨gl6, gpr, gc1, gc2⟩ := ok.gp g (List.mem_of_getElem? hgi)
      have hi10 : i' < 10 := by have := ok.g10; omega
      refine ⟨gA, _, rfl, tk2.sq hG, rfl, _, _, rfl, _, _, rfl, rfl, ?_⟩
      -- numbers = []
      refine ⟨Nat.zero_le _, fun Nu nNu => ?_⟩
      have oNu := d2.off nNu
      have nNP : Pl ≠ Nu := ne_of_none eP nNu
      have nNF : Fo ≠ Nu := ne_of_none eF nNu
      have hNu : H Nu = none := by
        cases e : H Nu with
        | none => rfl
        | some o => rw [x2 _ _ e oNu.1 oNu.2.2] at nNu; cases nNu
      generalize hH4 : upd H3 Nu (.lst []) = H4
      have eN4 : H4 Nu = some (.lst []) := by rw [← hH4]; exact upd_same
      have s4 : Same H3 H4 := by rw [← hH4]; exact sameNew nNu
      have tk4 := tk2.trans (TupK.of s4)
      refine ⟨.ref pA, rfl, pA, rfl, ⟨_, tk4.sq hP⟩, for_it (walk_tup (K := K) (a := pA) (xs := g.1.map V.int))
        (fun j σ H5 => ∃ (y7 y8 : Option V) (cnt : Int) (t5 : Nat) (ps2 nums : List Int), σ = [some (.ref st), some (.ref i), some (.ref Pl), some (.ref Fo), some (.ref pA), some (.int cnt), some (.ref Nu), y7, y8] ∧ DS H5 st c r t5 ∧ t5 ≤ t' + 3 * j ∧
          Ext st r H H5 ∧ TupK H3 H5 ∧ H5 Pl = some (.lst (ps2.map V.int)) ∧ ps2.length = cs.length ∧ (∀ x ∈ ps2, 0 ≤ x ∧ x ≤ 10 ^ 12) ∧ H5 Fo = some (.lst vs) ∧
          H5 Nu = some (.lst (nums.map V.int)) ∧ nums.length = j ∧ (∀ x ∈ nums, 0 ≤ x ∧ x ≤ 10 ^ 12) ∧ 0 ≤ cnt ∧ cnt ≤ 10 ^ 12 ∧ nums.sum + cnt = g.2 ∧ ∀ p, p < cs.length → ps2.getD p 0 + (rowLoads (loadsFrom (zeros cs.length) (gs.take i') rows) (g.1.take j) nums).getD p 0 = cs.getD p 0)
        ⟨y7, y8, g.2, t', pls, [], rfl, d2.same s4, by omega, x2.trans (Ext.of s4), TupK.of s4, s4 _ _ eP, lP, bP, s4 _ _ eF, eN4, rfl, (fun x h => by simp at h), by omega, gc2, by simp, by simpa [rowLoads] using hld⟩ ?_ ?_ ?_⟩
      · rintro j σ H5 _ ⟨y7, y8, cnt, t5, ps2, nums, rfl, d5, ht5, x5, tk5, _⟩
        exact (tk2.trans tk5).sq hP
      · rintro j v σ H5 H6 hltj ⟨y7, y8, cnt, t5, ps2, nums, rfl, d5, ht5, x5, tk5, eP5, lP5, bP5, eF5, eN5, lN5, bN5, c0, c1, hsum5, hld5⟩ ⟨rfl, hx2⟩
        rw [List.getElem?_map] at hx2
        obtain ⟨pp, hpp, rfl⟩ := Option.map_eq_some_iff.mp hx2
        have hpr := gpr pp (List.mem_of_getElem? hpp)
        obtain ⟨pn, rfl⟩ : ∃ pn : Nat, pp = pn := ⟨pp.toNat, by omega⟩
        have hpl : pn < ps2.length := by omega
        have hj6 : j < 6 := by have := (List.getElem?_eq_some_iff.mp hpp).1; omega
        have hpv : (ps2.map V.int)[pn]? = some (.int ps2[pn]) := by rw [List.getElem?_map, List.getElem?_eq_getElem hpl]; rfl
        have hpb := bP5 ps2[pn] (List.getElem_mem hpl)
        refine ⟨.ref st, rfl, .ref Pl, rfl, .int pn, rfl, Pl, _, _, .int ps2[pn], rfl, rfl, SqL.of eP5, atI_nat hpv, .int cnt, rfl, _, _, rfl, st, c, r, t5, _, rfl, d5, by omega, by split <;> omega, by split <;> omega, fun H7 d h0 hle D7 X7 => ?_⟩
        have eP7 := X7 _ _ eP5 oPl.1 oPl.2.2
        have eF7 := X7 _ _ eF5 oFo.1 oFo.2.2
        have eN7 := X7 _ _ eN5 oNu.1 oNu.2.2
        have hd1 : d ≤ cnt := by split at hle <;> omega
        have hd2 : d ≤ ps2[pn] := by split at hle <;> omega
        refine ⟨.ref Pl, rfl, .int pn, rfl, Pl, _, _, .int ps2[pn], rfl, rfl, SqL.of eP7, atI_nat hpv, .int d, rfl, _, _, rfl, rfl, .ref Pl, rfl, .int pn, rfl, Pl, _, _, pn, rfl, rfl, eP7, ixN_nat (by rw [List.length_map]; exact hpl), ?_⟩
        refine ⟨.int cnt, rfl, .int d, rfl, _, _, rfl, rfl, ?_⟩
        have eN8 : (upd H7 Pl (.lst ((ps2.map V.int).set pn (.int (ps2[pn] - d))))) Nu = some (.lst (nums.map V.int)) := by rw [upd_ne nNP.symm]; exact eN7
        refine ⟨.ref Nu, rfl, .inl ⟨rfl, _, SqL.of eN8⟩, .int d, rfl, Nu, _, _, rfl, rfl, eN8, ?_, ?_⟩
        · rw [List.length_map]; exact small (by omega)
        refine ⟨_, _, cnt - d, t5 + 3, ps2.set pn (ps2[pn] - d), nums ++ [d], rfl, (D7.put oPl.1 oPl.2.1 oPl.2.2).put oNu.1 oNu.2.1 oNu.2.2, by omega, ExtPut (ExtPut (x5.trans X7) nPl) hNu, ((tk5.trans (X7.tup d5)).trans (TupK.put eP7)).trans (TupK.put eN8), ?_, ?_, ?_, ?_, ?_, ?_, ?_, by omega, by omega, by rw [List.sum_append]; simp; omega, ?_⟩
        · rw [upd_ne nNP, upd_same, List.map_set]
        · rw [List.length_set]; exact lP5
        · intro x hx
          rcases List.mem_or_eq_of_mem_set hx with h | h
          · exact bP5 x h
          · rw [h]; omega
        · rw [upd_ne nNF, upd_ne nPF.symm]; exact eF7
        · rw [upd_same, List.map_append]; rfl
        · simp [lN5]
        · intro x hx
          rw [List.mem_append] at hx
          rcases hx with h | h
          · exact bN5 x h
          · simp at h; omega
        · intro p hp
          rw [rowLoads_snoc hpp lN5]
          have hrl : pn < (rowLoads (loadsFrom (zeros cs.length) (gs.take i') rows) (g.1.take j) nums).length := by rw [rowLoads_len, loadsFrom_len]; simp [zeros]; omega
          rw [addAt_get hrl]
          have e1 := hld5 p hp
          have e2 := hld5 pn (by omega)
          by_cases hpe : p = pn
          · subst hpe
            rw [if_pos rfl]
            have : (ps2.set p (ps2[p] - d)).getD p 0 = ps2[p] - d := by simp [List.getD_eq_getElem?_getD, hpl]
            have e3 : ps2.getD p 0 = ps2[p] := by simp [List.getD_eq_getElem?_getD, hpl]
            rw [this]; rw [e3] at e2; omega
          · rw [if_neg hpe]
            have : (ps2.set pn (ps2[pn] - d)).getD p 0 = ps2.getD p 0 := by simp only [List.getD_eq_getElem?_getD]; rw [List.getElem?_set_ne (fun z => hpe z.symm)]
            rw [this]; exact e1
      · rintro σ H5 ⟨z7, z8, cnt, t5, ps2, nums, rfl, d5, ht5, x5, tk5, eP5, lP5, bP5, eF5, eN5, lN5, bN5, c0, c1, hsum5, hld5⟩
        rw [List.length_map] at ht5 lN5 hld5
        rw [List.take_length] at hld5
        have hvl : vs.length = i' := by rw [DpAll.len hvs, List.length_map, hsh.1, List.length_take]; omega
        -- found.append(..)
        have fin : ∀ (H9 : Hp) (p : Addr), Same H5 H9 → SqT K H9 p ((nums ++ [cnt]).map V.int) → rAppend (.ref Fo) [.ref p] H9 (fun _ Hz => ∃ y4 y5 y6 y7 y8 t' pls vs rows, ([some (.ref st), some (.ref i), some (.ref Pl), some (.ref Fo), some (.ref pA), some (.int cnt), some (.ref Nu), z7, z8] : L2.St) = [some (.ref st), some (.ref i), some (.ref Pl), some (.ref Fo), y4, y5, y6, y7, y8] ∧ DS Hz st c r t' ∧ t' ≤ t + 18 * (i' + 1) ∧ Ext st r H Hz ∧
            Hz Pl = some (.lst (List.map V.int pls)) ∧ pls.length = cs.length ∧ (∀ x ∈ pls, 0 ≤ x ∧ x ≤ 10 ^ 12) ∧ Hz Fo = some (.lst vs) ∧ DpAll K Hz vs (List.map dI rows) ∧ Shp (gs.take (i' + 1)) rows ∧ Bd rows ∧ (∀ p, p < cs.length → pls.getD p 0 + (loadsFrom (zeros cs.length) (gs.take (i' + 1)) rows).getD p 0 = cs.getD p 0) ∧ ∀ (k : Nat) (g : Gp) (row : List Int), (gs.take (i' + 1))[k]? = some g → rows[k]? = some row → row.sum = g.2) := by
          intro H9 p s9 h9
          have eF9 := s9 _ _ eF5
          have tk9 : TupK H9 (upd H9 Fo (.lst (vs ++ [.ref p]))) := TupK.put eF9
          refine ⟨Fo, vs, .ref p, rfl, rfl, eF9, by rw [hvl]; exact small (by omega), _, _, _, _, _, t5, ps2, vs ++ [.ref p], rows ++ [nums ++ [cnt]], rfl, (d5.same s9).put oFo.1 oFo.2.1 oFo.2.2, by omega, ExtPut (x5.trans (Ext.of s9)) fFo, by rw [upd_ne nPF]; exact s9 _ _ eP5, lP5, bP5, upd_same, ?_, hsh.snoc hgi (by simp [lN5]), ?_, ?_, ?_⟩
          · rw [List.map_append]
            exact DpAll.snoc (((tk5.trans (TupK.of s9)).trans tk9).dpAll _ _ (to_rows _) hvs) (dI_sq (tk9.sq h9))
          · intro row hrow
            rw [List.mem_append] at hrow
            rcases hrow with h | h
            · exact hbd row h
            · simp at h
              subst h
              intro x hx
              rw [List.mem_append] at hx
              rcases hx with h | h
              · exact bN5 x h
              · simp at h; omega
          · intro p hp
            have hrl : rows.length = i' := by rw [hsh.1, List.length_take]; omega
            rw [loadsFrom_snoc hgi hrl, rowLoads_more lN5]
            exact hld5 p hp
          · intro k g' row' hk1 hk2
            have hrl : rows.length = i' := by rw [hsh.1, List.length_take]; omega
            rw [take_snoc hgi] at hk1
            by_cases hki : k < i'
            · rw [List.getElem?_append_left (by rw [List.length_take]; omega)] at hk1
              rw [List.getElem?_append_left (by omega)] at hk2
              exact hsm k g' row' hk1 hk2
            · rw [List.getElem?_append_right (by omega)] at hk2
              rw [List.getElem?_append_right (by rw [List.length_take]; omega)] at hk1
              have e0 : k - rows.length = 0 := by have := (List.getElem?_eq_some_iff.mp hk2).1; simp at this; omega
              have e1 : k - (gs.take i').length = 0 := by rw [List.length_take]; omega
              rw [e0] at hk2; rw [e1] at hk1
              simp at hk1 hk2
              rw [← hk1, ← hk2, List.sum_append]
              simpa using hsum5
        refine ⟨.ref Fo, rfl, .inl ⟨rfl, _, SqL.of eF5⟩, .ref Nu, rfl, Nu, _, rfl, .inl ⟨SqL.of eN5, fun p1 n1 => ⟨.int cnt, rfl, (show (1 : Nat) ≤ sizeLine by decide), fun p2 n2 => ⟨p1, p2, _, _, rfl, rfl, SqT.of (upNew n2 upd_same), SqT.of upd_same, ?_, fun z => ?_, (fun _ z => by cases z), fun _ _ p3 n3 => ?_⟩⟩⟩⟩
        · rw [List.length_map, lN5]; have := small (n := g.1.length + 1) (by omega); simp; omega
        · have z2 : nums = [] := List.map_eq_nil_iff.mp z
          refine fin _ p2 ((sameNew n1).trans (sameNew n2)) (SqT.of ?_)
          rw [upd_same, z2]; rfl
        · refine fin _ p3 (((sameNew n1).trans (sameNew n2)).trans (sameNew n3)) (SqT.of ?_)
          rw [upd_same, List.map_append]; rfl
    · rintro σ H2 ⟨y4, y5, y6, y7, y8, t', pls, vs, rows, rfl, d2, ht2, x2, eP, lP, bP, eF, hvs, hsh, hbd, hld, hsm⟩
      rw [lx, List.take_length] at hsh hld hsm
      have hheld := held_mk hsh (fun row hr x hx => (hbd row hr x hx).1) hsm (fun x hx => (bP x hx).1) lP hld
      have := ok.g10
      exact ⟨.ref Fo, rfl, Fo, _, rfl, .inl ⟨SqL.of eF, fun p np => q _ p t' rows (d2.new np) (by omega) (x2.trans (Ext.of (sameNew np))) (.tup (SqT.of upd_same) ((TupK.new np).dpAll _ _ (to_rows _) hvs)) hsh hbd hsm hheld⟩⟩
end
end Pv

namespace Pv
open PySem PySem.Spec PyProof.Rows L2
abbrev sInst : Stmt := topS 25
theorem scInst : FnScope ["_law_state", "_law_posts", "_law_groups", "_law_most", "_law_size", "_law_capacities", "_law_found", "_law_group", "_law_names", "_law_chosen", "_law_post", "_law_turn"] ["_law_state", "_law_posts", "_law_groups", "_law_most"] (defScope sInst) := ⟨rfl, rfl, rfl, by decide +kernel, rfl, by decide +kernel, by decide +kernel⟩
theorem Ext.nil {st c r p : Addr} {t : Nat} {H H1 : Hp} (x : Ext st r H H1) (d : DS H1 st c r t) (np : H1 p = none) : H p = none := by
  have o := d.off np
  cases e : H p with
  | none => rfl
  | some z => rw [x _ _ e o.1 o.2.2] at np; cases np
def upTo (n : Nat) : List Int := (List.range n).map fun (i : Nat) => (i : Int)
theorem rgV_upTo (n : Nat) : rgV 0 (n : Int) = (upTo n).map V.int := by
  unfold rgV upTo
  rw [List.map_map]
  simp
theorem upTo_len (n : Nat) : (upTo n).length = n := by simp [upTo]
theorem upTo_mem {n : Nat} {x : Int} (h : x ∈ upTo n) : 0 ≤ x ∧ x < n := by
  unfold upTo at h
  obtain ⟨i, hi, rfl⟩ := List.mem_map.mp h
  have := List.mem_range.mp hi
  omega
theorem erase_map {α β : Type} (f : α → β) : ∀ (l : List α) (k : Nat), (l.map f).eraseIdx k = (l.eraseIdx k).map f
  | [], _ => rfl
  | _ :: _, 0 => rfl
  | x :: l, k + 1 => by simp [erase_map f l k]
section
variable {P : Program} {w : World} {K : PySem.W.Frag} {mg : Str → Option Value} {base : Heap}
def spInst (K : PySem.W.Frag) : Sp := fun vs H Q _ => ∃ (st c r : Addr) (t : Nat) (pm gm m : Int), vs = [.ref st, .int pm, .int gm, .int m] ∧ DS H st c r t ∧ t + 200 ≤ 1000000 ∧ (1 ≤ pm ∧ pm ≤ 6 ∧ 1 ≤ gm ∧ gm ≤ 10) ∧ 1 ≤ m ∧ m ≤ 10 ^ 12 ∧
  ∀ (H' : Hp) (p : Addr) (t' : Nat) (cs : List Int) (gs : List Gp), DS H' st c r t' → t' ≤ t + 200 → Ext st r H H' → Dp K H' (.ref p) (dInst cs gs) → InsOk cs gs → Q (.ref p) H'
set_option maxHeartbeats 4000000 in
theorem ok_inst {f fD : Addr} {fd fdD : FuncData} {k : Nat} (F : Fun K "_law_instance" "_law_instance" sInst f fd)
    (FD : Fun K "_law_draw" "_law_draw" sDraw fD fdD) (bD : Binds K fdD ["_law_state", "_law_below"] []) (gD : mg "_law_draw" = some (.ref fD)) (GD : FnOk P w K mg base CX0 1 fD fdD ["_law_state", "_law_below"] spDraw)
    (mt : mg "tuple" = none) (mr : mg "range" = none) (mli : mg "list" = none) (ml : mg "len" = none) : FnOk P w K mg base CX0 (1 + k + 1) f fd ["_law_state", "_law_posts", "_law_groups", "_law_most"] (spInst K) := by
  refine F.ok scInst (fun vs H Q E h => ?_) (fun cdv A outer s H vs Q E hr h => ?_)
  · obtain ⟨st, c, r, t, pm, gm, m, rfl, _⟩ := h; rfl
  · obtain ⟨st, c, r, t, pm, gm, m, rfl, hd, ht, hpg, hm, hm2, q⟩ := h
    refine ⟨_, pss_cons (ps_set (i := 4) scInst.nd rfl (.inl rfl) (pe_op op_add pe_int (pe_call GD (hr.mono (by omega)) (by rfl) gD FD.kp bD .nil pass0 (pa_cons (pv 0) (pa_cons (pv 1) pa_nil)))))
      (pss_cons (ps_set (i := 5) scInst.nd rfl (.inl rfl) (pe_callTy call_tuple_of (by rfl) mt (by decide +kernel) (pa_cons
        (pe_lc (own := [("_law_post", 10)]) (g := gName 10) (tt := tYes) rfl scInst.nd (pi_range1 (by rfl) mr (pa_cons (pv 4) pa_nil)) (blkOk_by (N := ["_law_state", "_law_posts", "_law_groups", "_law_most", "_law_size", "_law_capacities", "_law_found", "_law_group", "_law_names", "_law_chosen", "_law_post", "_law_turn"]) (sc := defScope sInst) (by decide +kernel))
          (fun _ _ _ _ _ => pg_name (i := 10) scInst.nd rfl (.inl rfl)) (fun _ _ _ _ _ => pts_nil)
          (fun _ _ _ _ _ => pe_op op_add pe_int (pe_call GD (hr.mono (by omega)) (by rfl) gD FD.kp bD .nil pass0 (pa_cons (pv 0) (pa_cons (pv 3) pa_nil))))) pa_nil)))
      (pss_cons (ps_set (i := 6) scInst.nd rfl (.inl rfl) (pe_lst pa_nil))
      (pss_cons (ps_for PassesOwn.never rfl (pi_range1 (by rfl) mr (pa_cons (pe_op op_add pe_int (pe_call GD (hr.mono (by omega)) (by rfl) gD FD.kp bD .nil pass0 (pa_cons (pv 0) (pa_cons (pv 2) pa_nil)))) pa_nil)) (pg_name (i := 7) scInst.nd rfl (.inl rfl))
        (pss_cons (ps_set (i := 8) scInst.nd rfl (.inr rfl) (pe_listRg rfl (by rfl) mli (prg_1 (by rfl) mr (pv 4))))
        (pss_cons (ps_setLc (i := 9) (own := [("_law_turn", 11)]) (g := gName 11) (tt := tYes) (te := tBM K "list" rPopAt (tVar 8) (tCons (tCall spDraw [] E0 (tCons (tVar 0) (tCons (tCB (rLenQ K) (tCons (tVar 8) tNil)) tNil))) tNil)) rfl scInst.nd rfl rfl (sw_true rfl rfl rfl (by decide +kernel))
          (pi_range1 (by rfl) mr (pa_cons (pe_call GD (hr.mono (by omega)) (by rfl) gD FD.kp bD .nil pass0 (pa_cons (pv 0) (pa_cons (pe_op op_add (pv 4) pe_int) pa_nil))) pa_nil))
          (blkOk_by (N := ["_law_state", "_law_posts", "_law_groups", "_law_most", "_law_size", "_law_capacities", "_law_found", "_law_group", "_law_names", "_law_chosen", "_law_post", "_law_turn"]) (sc := defScope sInst) (by decide +kernel))
          (fun _ _ _ _ _ => pg_name (i := 11) scInst.nd rfl (.inl rfl)) (fun _ _ _ _ _ => pts_nil)
          (fun _ _ _ _ _ => pe_bm PySem.F.plainAttrs_list PySem.F.slot_list_pop PySem.F.type_list_pop mt_popAt (pv 8) (pa_cons (pe_call GD (hr.mono (by omega)) (by rfl) gD FD.kp bD .nil pass0 (pa_cons (pv 0) (pa_cons (pe_callB call_lenQ (by rfl) ml PySem.boot_len (pa_cons (pv 8) pa_nil)) pa_nil))) pa_nil)))
        (pss_one (ps_expr (pe_bm PySem.F.plainAttrs_list PySem.F.slot_list_append PySem.F.type_list_append mt_append (pv 6) (pa_cons (pe_tup (pa_cons (pe_callTy call_tuple_of (by rfl) mt (by decide +kernel) (pa_cons (pv 9) pa_nil))
          (pa_cons (pe_op op_add pe_int (pe_call GD (hr.mono (by omega)) (by rfl) gD FD.kp bD .nil pass0 (pa_cons (pv 0) (pa_cons (pv 3) pa_nil)))) pa_nil))) pa_nil)))))))
      (pss_one (ps_ret (pe_tup (pa_cons (pv 5) (pa_cons (pe_callTy call_tuple_of (by rfl) mt (by decide +kernel) (pa_cons (pv 6) pa_nil)) pa_nil)))))))), ?_⟩
    -- size
    refine ⟨.ref st, rfl, .int pm, rfl, st, c, r, t, _, rfl, hd, by omega, by omega, by omega, fun H1 d1 h10 h11 D1 X1 => ⟨_, _, rfl, rfl, ?_⟩⟩
    obtain ⟨n, hn⟩ : ∃ n : Nat, 1 + d1 = (n : Int) := ⟨(1 + d1).toNat, by omega⟩
    have hn6 : 1 ≤ n ∧ n ≤ 6 := by omega
    dsimp only
    rw [hn]
    -- capacities
    refine ⟨.int n, rfl, n, rfl, by omega, by omega, fun Ca nCa => lc_it (walk_range (lo := 0) (n := (n : Int).toNat))
      (fun j H2 => ∃ (t2 : Nat) (ls : List Int), DS H2 st c r t2 ∧ t2 ≤ t + 1 + j ∧ Ext st r H H2 ∧ H2 Ca = some (.lst (ls.map V.int)) ∧ ls.length = j ∧ ∀ x ∈ ls, 1 ≤ x ∧ x ≤ 10 ^ 12)
      ⟨t + 1, [], D1.new nCa, by omega, X1.trans (Ext.of (sameNew nCa)), upd_same, rfl, fun x h => by simp at h⟩ (fun _ _ _ _ => trivial) ?_ ?_⟩
    · rintro j v H2 H3 hlt ⟨t2, ls, d2, ht2, x2, e2, l2, b2⟩ ⟨rfl, rfl⟩
      have hj6 : j < 6 := by omega
      have oCa := D1.off nCa
      refine ⟨rfl, .ref st, rfl, .int m, rfl, st, c, r, t2, _, rfl, d2, by omega, by omega, by omega, fun H4 d h0 h1 D4 X4 => ⟨_, _, rfl, rfl, _, X4 _ _ e2 oCa.1 oCa.2.2, ?_, t2 + 1, ls ++ [1 + d], D4.put oCa.1 oCa.2.1 oCa.2.2, by omega, ExtPut (x2.trans X4) (X1.nil D1 nCa), ?_, by simp [l2], ?_⟩⟩
      · rw [List.length_map]; exact small (by omega)
      · rw [upd_same, List.map_append]; rfl
      · intro x hx
        rw [List.mem_append] at hx
        rcases hx with h | h
        · exact b2 x h
        · simp at h; omega
    rintro H2 ⟨t2, caps, d2, ht2, x2, e2, l2, b2⟩
    have l2' : caps.length = n := by omega
    refine ⟨Ca, _, rfl, .inl ⟨SqL.of e2, fun Cp nCp => ?_⟩⟩
    -- found = []
    refine ⟨Nat.zero_le _, fun Fo nFo => ?_⟩
    generalize hHc : upd (upd H2 Cp (.tup (caps.map V.int))) Fo (.lst []) = Hc
    have dc : DS Hc st c r t2 := by rw [← hHc]; exact (d2.new nCp).new nFo
    have xc : Ext st r H Hc := by rw [← hHc]; exact (x2.trans (Ext.of (sameNew nCp))).trans (Ext.of (sameNew nFo))
    have sC : SqT K Hc Cp (caps.map V.int) := by rw [← hHc]; exact SqT.of (upNew nFo upd_same)
    have eFo : Hc Fo = some (.lst []) := by rw [← hHc]; exact upd_same
    have oFo := (d2.new nCp (o := .tup (caps.map V.int))).off nFo
    have fFo : H Fo = none := (x2.trans (Ext.of (sameNew nCp (o := .tup (caps.map V.int))))).nil (d2.new nCp) nFo
    -- the groups
    refine ⟨.ref st, rfl, .int gm, rfl, st, c, r, t2, _, rfl, dc, by omega, by omega, by omega, fun H3 d3 h30 h31 D3 X3 => ⟨_, _, rfl, rfl, ?_⟩⟩
    obtain ⟨gn, hgn⟩ : ∃ gn : Nat, 1 + d3 = (gn : Int) := ⟨(1 + d3).toNat, by omega⟩
    have hgn10 : 1 ≤ gn ∧ gn ≤ 10 := by omega
    refine ⟨1 + d3, rfl, by omega, by omega, for_it (walk_range (lo := 0) (n := (1 + d3).toNat))
      (fun i σ H4 => ∃ (y7 y8 y9 : Option V) (t4 : Nat) (vs : List V) (gs : List Gp), σ = [some (.ref st), some (.int pm), some (.int gm), some (.int m), some (.int n), some (.ref Cp), some (.ref Fo), y7, y8, y9, none, none] ∧ DS H4 st c r t4 ∧ t4 ≤ t2 + 1 + 10 * i ∧ Ext st r H H4 ∧ TupK Hc H4 ∧
        H4 Fo = some (.lst vs) ∧ DpAll K H4 vs (gs.map dGrp) ∧ gs.length = i ∧ ∀ g ∈ gs, g.1.length ≤ 6 ∧ (∀ p ∈ g.1, 0 ≤ p ∧ p < (n : Int)) ∧ 1 ≤ g.2 ∧ g.2 ≤ 10 ^ 12)
      ⟨none, none, none, t2 + 1, [], [], rfl, D3, by omega, xc.trans X3, X3.tup dc, X3 _ _ eFo oFo.1 oFo.2.2, .nil, rfl, fun g h => by simp at h⟩ (fun _ _ _ _ _ => trivial) ?_ ?_⟩
    · rintro i v σ H4 H5 hlt ⟨y7, y8, y9, t4, vs, gs, rfl, d4, ht4, x4, tk4, eF4, hvs, lgs, bgs⟩ ⟨rfl, rfl⟩
      have hi10 : i < 10 := by omega
      -- names = list(range(size))
      refine ⟨.int n, rfl, n, rfl, RgOk.of_le (by omega) (by omega) (by omega) (by omega), fun Nm nNm => ?_⟩
      have oNm := d4.off nNm
      have fNm := x4.nil d4 nNm
      have nFN : Fo ≠ Nm := ne_of_none eF4 nNm
      have d5 := d4.new nNm (o := .lst (rgV 0 n))
      -- chosen
      refine ⟨.ref st, rfl, .int n, rfl, _, _, rfl, rfl, st, c, r, t4, _, rfl, d5, by omega, by omega, by omega, fun H6 d6 h60 h61 D6 X6 => ?_⟩
      have eF6 := X6 _ _ (upNew nNm eF4) oFo.1 oFo.2.2
      have eN6 := X6 Nm _ upd_same oNm.1 oNm.2.2
      rw [rgV_upTo] at eN6
      have x6 := (x4.trans (Ext.of (sameNew nNm))).trans X6
      have tk6 := (tk4.trans (TupK.new nNm)).trans (X6.tup d5)
      have tk6a := (TupK.new nNm (o := .lst (rgV 0 n))).trans (X6.tup d5)
      refine ⟨d6, rfl, by omega, by omega, fun Ch nCh => lc_it (walk_range (lo := 0) (n := d6.toNat))
        (fun j H7 => ∃ (t7 : Nat) (ns ls : List Int), DS H7 st c r t7 ∧ t7 ≤ t4 + 1 + j ∧ Ext st r H H7 ∧ TupK H6 H7 ∧ H7 Fo = some (.lst vs) ∧ H7 Nm = some (.lst (ns.map V.int)) ∧ ns.length + j = n ∧ (∀ x ∈ ns, 0 ≤ x ∧ x < (n : Int)) ∧
          H7 Ch = some (.lst (ls.map V.int)) ∧ ls.length = j ∧ ∀ x ∈ ls, 0 ≤ x ∧ x < (n : Int))
        ⟨t4 + 1, upTo n, [], D6.new nCh, by omega, x6.trans (Ext.of (sameNew nCh)), TupK.new nCh, upNew nCh eF6, upNew nCh eN6, upTo_len n, fun x h => upTo_mem h, upd_same, rfl, fun x h => by simp at h⟩ (fun _ _ _ _ => trivial) ?_ ?_⟩
      · rintro j v H7 H8 hltj ⟨t7, ns, ls, d7, ht7, x7, tk7, eF7, eN7, lN7, bN7, eC7, lC7, bC7⟩ ⟨rfl, rfl⟩
        have hjn : j < n := by omega
        have oCh := D6.off nCh
        have nNC : Nm ≠ Ch := ne_of_none eN6 nCh
        have nFC : Fo ≠ Ch := ne_of_none eF6 nCh
        refine ⟨rfl, .ref Nm, rfl, .inl ⟨rfl, _, SqL.of eN7⟩, .ref st, rfl, .ref Nm, rfl, Nm, _, rfl, .inl (SqL.of eN7), st, c, r, t7, _, rfl, d7, by omega, by rw [List.length_map]; omega, by rw [List.length_map]; omega, fun H9 d9 h90 h91 D9 X9 => ?_⟩
        rw [List.length_map] at h91
        have eN9 := X9 _ _ eN7 oNm.1 oNm.2.2
        have eC9 := X9 _ _ eC7 oCh.1 oCh.2.2
        have eF9 := X9 _ _ eF7 oFo.1 oFo.2.2
        have hk : d9.toNat < ns.length := by omega
        have eCz : (upd H9 Nm (.lst ((ns.map V.int).eraseIdx d9.toNat))) Ch = some (.lst (ls.map V.int)) := by rw [upd_ne nNC.symm]; exact eC9
        refine ⟨Nm, _, d9, d9.toNat, .int ns[d9.toNat], rfl, rfl, eN9, by omega, by omega, seqIndex_of h90 (by rw [List.length_map]; omega), by rw [List.getElem?_map, List.getElem?_eq_getElem hk]; rfl, _, eCz, by rw [List.length_map]; exact small (by omega),
          t7 + 1, ns.eraseIdx d9.toNat, ls ++ [ns[d9.toNat]], (D9.put oNm.1 oNm.2.1 oNm.2.2).put oCh.1 oCh.2.1 oCh.2.2, by omega, ExtPut (ExtPut (x7.trans X9) fNm) (x6.nil D6 nCh), ((tk7.trans (X9.tup d7)).trans (TupK.put eN9)).trans (TupK.put eCz), ?_, ?_, ?_, ?_, ?_, by simp [lC7], ?_⟩
        · rw [upd_ne nFC, upd_ne nFN]; exact eF9
        · rw [upd_ne nNC, upd_same, erase_map]
        · rw [List.length_eraseIdx_of_lt hk]; omega
        · exact fun x hx => bN7 x (List.mem_of_mem_eraseIdx hx)
        · rw [upd_same, List.map_append]; rfl
        · intro x hx
          rw [List.mem_append] at hx
          rcases hx with h | h
          · exact bC7 x h
          · simp at h; subst h; exact bN7 _ (List.getElem_mem hk)
      · rintro H7 ⟨t7, ns, ls, d7, ht7, x7, tk7, eF7, eN7, lN7, bN7, eC7, lC7, bC7⟩
        -- found.append(..)
        refine ⟨.ref Fo, rfl, .inl ⟨rfl, _, SqL.of eF7⟩, .ref Ch, rfl, Ch, _, rfl, .inl ⟨SqL.of eC7, fun Tp nTp => ?_⟩⟩
        refine ⟨.ref st, rfl, .int m, rfl, st, c, r, t7, _, rfl, d7.new nTp, by omega, by omega, by omega, fun H8 d8 h80 h81 D8 X8 => ⟨_, _, rfl, rfl, (show (2 : Nat) ≤ sizeLine by decide), fun Gr nGr => ?_⟩⟩
        have eF8p := X8 _ _ (upNew nTp eF7) oFo.1 oFo.2.2
        have eF8 := upNew nGr (o := .tup [.ref Tp, .int (1 + d8)]) eF8p
        have tk8 := (TupK.new nTp).trans (X8.tup (d7.new nTp (o := .tup (ls.map V.int))))
        have sT : SqT K H8 Tp (ls.map V.int) := (X8.tup (d7.new nTp)).sq (SqT.of upd_same)
        have hvl : vs.length = i := by rw [DpAll.len hvs, List.length_map, lgs]
        have tkz : TupK H8 (upd (upd H8 Gr (.tup [.ref Tp, .int (1 + d8)])) Fo (.lst (vs ++ [.ref Gr]))) := (TupK.new nGr).trans (TupK.put eF8)
        refine ⟨Fo, vs, _, rfl, rfl, eF8, by rw [hvl]; exact small (by omega), _, _, _, t7 + 1, vs ++ [.ref Gr], gs ++ [(ls, 1 + d8)], rfl, (D8.new nGr).put oFo.1 oFo.2.1 oFo.2.2, by omega, ExtPut ((((x7.trans (Ext.of (sameNew nTp))).trans X8)).trans (Ext.of (sameNew nGr))) fFo, ((tk6.trans tk7).trans tk8).trans tkz, upd_same, ?_, by simp [lgs], ?_⟩
        · rw [List.map_append]
          refine DpAll.snoc ((((tk6a.trans tk7).trans tk8).trans tkz).dpAll _ _ (to_grps _) hvs) (.tup (SqT.of ?_) (.cons (dI_sq (tkz.sq sT)) (.cons (.int _) .nil)))
          rw [upd_ne (ne_of_none eF8p nGr).symm]
          exact upd_same
        · intro g hg
          rw [List.mem_append] at hg
          rcases hg with h | h
          · exact bgs g h
          · simp at h
            subst h
            exact ⟨by show ls.length ≤ 6; omega, bC7, by show 1 ≤ 1 + d8; omega, by show 1 + d8 ≤ 10 ^ 12; omega⟩
    · rintro σ H4 ⟨y7, y8, y9, t4, vs, gs, rfl, d4, ht4, x4, tk4, eF4, hvs, lgs, bgs⟩
      refine ⟨.ref Cp, rfl, .ref Fo, rfl, Fo, _, rfl, .inl ⟨SqL.of eF4, fun Gt nGt => ⟨(show (2 : Nat) ≤ sizeLine by decide), fun In nIn => ?_⟩⟩⟩
      have tkz : TupK H4 (upd (upd H4 Gt (.tup vs)) In (.tup [.ref Cp, .ref Gt])) := (TupK.new nGt).trans (TupK.new nIn)
      refine q _ In t4 caps gs ((d4.new nGt).new nIn) (by omega) ((x4.trans (Ext.of (sameNew nGt))).trans (Ext.of (sameNew nIn))) (.tup (SqT.of upd_same) (.cons (dI_sq ((tk4.trans tkz).sq sC)) (.cons (.tup (SqT.of (upNew nIn upd_same)) (tkz.dpAll _ _ (to_grps _) hvs)) .nil))) ⟨by omega, by omega, b2, by omega, by omega, ?_⟩
      rw [l2']
      exact bgs
end
end Pv

namespace Pv
open PySem PySem.Spec PyProof.Rows L2
theorem le_sum : ∀ {row : List Int}, (∀ x ∈ row, 0 ≤ x) → 0 ≤ row.sum ∧ ∀ x ∈ row, x ≤ row.sum
  | [], _ => by simp
  | a :: row, h => by
    obtain ⟨h0, h1⟩ := le_sum (row := row) (fun x hx => h x (by simp [hx]))
    have ha := h a (by simp)
    rw [List.sum_cons]
    refine ⟨by omega, fun x hx => ?_⟩
    rcases List.mem_cons.mp hx with rfl | hx
    · omega
    · have := h1 x hx; omega
end Pv

namespace Pv
open PySem PySem.Spec PyProof.Rows L2
abbrev sOdd : Stmt := topS 28
-- gone: _law_first
theorem scOdd : FnScope ["_law_state", "_law_some"] ["_law_state"] (defScope sOdd) := ⟨rfl, rfl, rfl, by decide +kernel, rfl, by decide +kernel, by decide +kernel⟩
def oddL : List PyData := [.none, .bool true, .bool false, .int 0, .int 1, .int (-1), .int (10 ^ (29 : Int).toNat), .str "", .str "0", .str "a", .tuple [], .list [], .dict [], .dict [(.str "a", .int 1)], .tuple [.int 0], .list [.int 0], .tuple [.tuple []], .tuple [.int 0, .int 1]]
theorem odd_fit : ∀ d ∈ oddL, Fit (10 ^ 29) 2 100 d := by
  intro d hd
  simp only [oddL, List.mem_cons, List.not_mem_nil, or_false] at hd
  rcases hd with rfl | rfl | rfl | rfl | rfl | rfl | rfl | rfl | rfl | rfl | rfl | rfl | rfl | rfl | rfl | rfl | rfl | rfl
  · exact ⟨by simp [fit], by simp [PyData.depth], by simp [wt]⟩
  · exact ⟨by simp [fit], by simp [PyData.depth], by simp [wt]⟩
  · exact ⟨by simp [fit], by simp [PyData.depth], by simp [wt]⟩
  · exact ⟨by simp [fit], by simp [PyData.depth], by simp [wt]⟩
  · exact ⟨by simp [fit], by simp [PyData.depth], by simp [wt]⟩
  · exact ⟨by simp [fit], by simp [PyData.depth], by simp [wt]⟩
  · exact ⟨by simp only [fit]; decide, by simp [PyData.depth], by simp [wt]⟩
  · exact ⟨by simp only [fit]; decide +kernel, by simp [PyData.depth], by simp [wt]⟩
  · exact ⟨by simp only [fit]; decide +kernel, by simp [PyData.depth], by simp [wt]⟩
  · exact ⟨by simp only [fit]; decide +kernel, by simp [PyData.depth], by simp [wt]⟩
  · exact ⟨by simp [fit, fitAll], by simp [PyData.depth, PyData.depthAll], by simp [wt, wtAll]⟩
  · exact ⟨by simp [fit, fitAll], by simp [PyData.depth, PyData.depthAll], by simp [wt, wtAll]⟩
  · exact ⟨by simp only [fit]; exact ⟨by decide +kernel, by simp [PyData.showable, PyData.showableKv]⟩, by simp [PyData.depth, PyData.depthKv], by simp [wt]⟩
  · exact ⟨by simp only [fit]; exact ⟨by decide +kernel, by simp [PyData.showable, PyData.showableKv]; decide⟩, by simp [PyData.depth, PyData.depthKv], by simp [wt]⟩
  · exact ⟨by simp [fit, fitAll], by simp [PyData.depth, PyData.depthAll], by simp [wt, wtAll]⟩
  · exact ⟨by simp [fit, fitAll], by simp [PyData.depth, PyData.depthAll], by simp [wt, wtAll]⟩
  · exact ⟨by simp [fit, fitAll], by simp [PyData.depth, PyData.depthAll], by simp [wt, wtAll]⟩
  · exact ⟨by simp [fit, fitAll], by simp [PyData.depth, PyData.depthAll], by simp [wt, wtAll]⟩
section
variable {P : Program} {w : World} {K : PySem.W.Frag} {mg : Str → Option Value} {base : Heap}
def spOdd (K : PySem.W.Frag) : Sp := fun vs H Q _ => ∃ (st c r : Addr) (t : Nat), vs = [.ref st] ∧ DS H st c r t ∧ t < 1000000 ∧
  ∀ (H' : Hp) (v : V) (d : PyData), DS H' st c r (t + 1) → Ext st r H H' → Dq K st r H' v d → Fit (10 ^ 29) 2 100 d → Q v H'
set_option maxHeartbeats 2000000 in
theorem ok_odd {f fD : Addr} {fd fdD : FuncData} {k : Nat} (F : Fun K "_law_odd" "_law_odd" sOdd f fd)
    (FD : Fun K "_law_draw" "_law_draw" sDraw fD fdD) (bD : Binds K fdD ["_law_state", "_law_below"] []) (gD : mg "_law_draw" = some (.ref fD)) (GD : FnOk P w K mg base CX0 1 fD fdD ["_law_state", "_law_below"] spDraw) :
    FnOk P w K mg base CX0 (1 + k + 1) f fd ["_law_state"] (spOdd K) := by
  refine F.ok scOdd (fun vs H Q E h => ?_) (fun cdv A outer s H vs Q E hr h => ?_)
  · obtain ⟨st, c, r, t, rfl, _⟩ := h; rfl
  · obtain ⟨st, c, r, t, rfl, ds, ht, q⟩ := h
    refine ⟨_, pss_cons (ps_set (i := 1) scOdd.nd rfl (.inl rfl) (pe_lst (pa_cons pe_non (pa_cons pe_bl (pa_cons pe_bl (pa_cons pe_int (pa_cons pe_int (pa_cons (pe_un un_neg pe_int) (pa_cons (pe_op op_pow pe_int pe_int)
        (pa_cons pe_str (pa_cons pe_str (pa_cons pe_str (pa_cons (pe_tup pa_nil) (pa_cons (pe_lstS pa_nil) (pa_cons pe_dnewK (pa_cons (pe_disp (pps_cons pe_str pe_int pps_nil) rfl rfl (by simp) (by decide))
        (pa_cons (pe_tup (pa_cons pe_int pa_nil)) (pa_cons (pe_lstS (pa_cons pe_int pa_nil)) (pa_cons (pe_tup (pa_cons (pe_tup pa_nil) pa_nil)) (pa_cons (pe_tup (pa_cons pe_int (pa_cons pe_int pa_nil))) pa_nil))))))))))))))))))))
      (pss_one (ps_ret (pe_ix ix_list (pv 1) (pe_call GD (hr.mono (by omega)) (by rfl) gD FD.kp bD .nil pass0 (pa_cons (pv 0) (pa_cons pe_int pa_nil))) (fun _ _ => rfl)))), ?_⟩
    refine ⟨1, rfl, _, _, rfl, rfl, ⟨by decide, by decide, by decide⟩, Nat.zero_le _, fun p1 n1 => ⟨Nat.zero_le _, fun p2 n2 m2 p3 n3 p4 n4 => ⟨upd_same, [(.inr "a", .int 1)], rfl, by decide, ?_⟩⟩⟩
    have h1 : Dq K st r (upd H p1 (.tup [])) (.ref p1) (.tuple []) := .tup (SqT.of upd_same) .nil
    have s1 : Same H (upd H p1 (.tup [])) := sameNew n1
    have d1 := ds.same s1
    obtain ⟨o1, _, o2⟩ := d1.off n2
    have h2 : Dq K st r (upd (upd H p1 (.tup [])) p2 (.lst [])) (.ref p2) (.list []) := .lst upd_same o1 o2 m2 .nil
    generalize e2 : upd (upd H p1 (.tup [])) p2 (.lst []) = H2 at *
    have s2 : Same (upd H p1 (.tup [])) H2 := by rw [← e2]; exact sameNew n2
    have h3 : Dq K st r (upd H2 p3 (.dK [])) (.ref p3) (.dict []) := .dct (kvs := []) upd_same
    have s3 : Same H2 (upd H2 p3 (.dK [])) := sameNew n3
    generalize e3 : upd H2 p3 (.dK []) = H3 at *
    rw [upd_upd]
    have h4 : Dq K st r (upd H3 p4 (.dK (mergeK [] [(.inr "a", .int 1)]))) (.ref p4) (.dict [(.str "a", .int 1)]) := .dct (kvs := [(.inr "a", 1)]) (by rw [upd_same]; rfl)
    have s4 : Same H3 (upd H3 p4 (.dK (mergeK [] [(.inr "a", .int 1)]))) := sameNew n4
    generalize e4 : upd H3 p4 (.dK (mergeK [] [(.inr "a", .int 1)])) = H4 at *
    refine ⟨by decide, fun p5 n5 => ⟨by decide, fun p6 n6 m6 => ⟨Nat.zero_le _, fun p7 n7 => ⟨(show (1 : Nat) ≤ sizeLine by decide), fun p8 n8 => ⟨by decide, fun p9 n9 => ⟨(show (18 : Nat) ≤ sizeLine by decide), fun L nL => ?_⟩⟩⟩⟩⟩⟩
    have h5 : Dq K st r (upd H4 p5 (.tup [.int 0])) (.ref p5) (.tuple [.int 0]) := .tup (SqT.of upd_same) (.cons (.int 0) .nil)
    have s5 : Same H4 (upd H4 p5 (.tup [.int 0])) := sameNew n5
    have s05 := (((s1.trans s2).trans s3).trans s4).trans s5
    obtain ⟨o3, _, o4⟩ := (ds.same s05).off n6
    generalize e5 : upd H4 p5 (.tup [.int 0]) = H5 at *
    have h6 : Dq K st r (upd H5 p6 (.lst [.int 0])) (.ref p6) (.list [.int 0]) := .lst upd_same o3 o4 m6 (.cons (.int 0) .nil)
    have s6 : Same H5 (upd H5 p6 (.lst [.int 0])) := sameNew n6
    generalize e6 : upd H5 p6 (.lst [.int 0]) = H6 at *
    have h7 : Dq K st r (upd H6 p7 (.tup [])) (.ref p7) (.tuple []) := .tup (SqT.of upd_same) .nil
    have s7 : Same H6 (upd H6 p7 (.tup [])) := sameNew n7
    generalize e7 : upd H6 p7 (.tup []) = H7 at *
    have s8 : Same H7 (upd H7 p8 (.tup [.ref p7])) := sameNew n8
    have h8 : Dq K st r (upd H7 p8 (.tup [.ref p7])) (.ref p8) (.tuple [.tuple []]) := .tup (SqT.of upd_same) (.cons (h7.lasts (.of s8)) .nil)
    generalize e8 : upd H7 p8 (.tup [.ref p7]) = H8 at *
    have s9 : Same H8 (upd H8 p9 (.tup [.int 0, .int 1])) := sameNew n9
    have h9 : Dq K st r (upd H8 p9 (.tup [.int 0, .int 1])) (.ref p9) (.tuple [.int 0, .int 1]) := .tup (SqT.of upd_same) (.cons (.int 0) (.cons (.int 1) .nil))
    generalize e9 : upd H8 p9 (.tup [.int 0, .int 1]) = H9 at *
    have s89 := s9
    have s79 := s8.trans s89
    have s69 := s7.trans s79
    have s59 := s6.trans s69
    have s49 := s5.trans s59
    have s39 := s4.trans s49
    have s29 := s3.trans s39
    have s19 := s2.trans s29
    have s09 := s1.trans s19
    have hall : DqAll K st r H9 [.non, .bl true, .bl false, .int 0, .int 1, .int (-1), .int (10 ^ (29 : Int).toNat), .str "", .str "0", .str "a", .ref p1, .ref p2, .ref p3, .ref p4, .ref p5, .ref p6, .ref p8, .ref p9] oddL :=
      .cons .non (.cons (.bl _) (.cons (.bl _) (.cons (.int _) (.cons (.int _) (.cons (.int _) (.cons (.int _) (.cons (.str _) (.cons (.str _) (.cons (.str _) (.cons (h1.lasts (.of s19)) (.cons (h2.lasts (.of s29)) (.cons (h3.lasts (.of s39)) (.cons (h4.lasts (.of s49))
        (.cons (h5.lasts (.of s59)) (.cons (h6.lasts (.of s69)) (.cons (h8.lasts (.of s89)) (.cons h9 .nil)))))))))))))))))
    have sL := sameNew (o := .lst [.non, .bl true, .bl false, .int 0, .int 1, .int (-1), .int (10 ^ (29 : Int).toNat), .str "", .str "0", .str "a", .ref p1, .ref p2, .ref p3, .ref p4, .ref p5, .ref p6, .ref p8, .ref p9]) nL
    have dL := ds.same (s09.trans sL)
    obtain ⟨oL1, _, oL2⟩ := (ds.same s09).off nL
    refine ⟨.ref L, rfl, .ref st, rfl, st, c, r, t, 18, rfl, dL, ht, by decide, by decide, fun H' d h0 h18 D' X' => ?_⟩
    obtain ⟨n, rfl⟩ : ∃ n : Nat, d = n := ⟨d.toNat, by omega⟩
    have hL := X' _ _ upd_same oL1 oL2
    have hallL := (hall.lasts (.of sL)).lasts (Lasts.ext dL X')
    generalize ev : ([.non, .bl true, .bl false, .int 0, .int 1, .int (-1), .int (10 ^ (29 : Int).toNat), .str "", .str "0", .str "a", .ref p1, .ref p2, .ref p3, .ref p4, .ref p5, .ref p6, .ref p8, .ref p9] : List V) = vals at *
    have hvl : vals.length = 18 := by rw [← ev]; rfl
    have hn : n < vals.length := by omega
    obtain ⟨dd, hdd, hdq⟩ := DqAll.at hallL (List.getElem?_eq_getElem hn)
    refine ⟨L, _, _, _, rfl, rfl, SqL.of ?_, atI_nat (List.getElem?_eq_getElem hn), q _ _ _ D' ((Ext.of (s09.trans sL)).trans X') hdq (odd_fit dd (List.mem_of_getElem? hdd))⟩
    exact hL
end
end Pv

namespace Pv
open PySem PySem.Spec PyProof.Rows L2
theorem cut_from (xs : List V) (n : Nat) : cutV xs (some (n : Int)) none = xs.drop n := by
  unfold cutV
  rw [HT.sIx_nat, HT.sIx_none]
  by_cases h : n ≤ xs.length
  · rw [Nat.min_eq_left h, List.take_of_length_le (by rw [List.length_drop]; exact Nat.le_refl _)]
  · rw [Nat.min_eq_right (by omega), List.drop_eq_nil_of_le (Nat.le_refl _), List.drop_eq_nil_of_le (by omega)]; simp
theorem cut_last (xs : List V) : cutV xs (some (-1)) none = xs.drop (xs.length - 1) := by
  unfold cutV
  rw [HT.sIx_none]
  have e : HT.sIx xs.length 0 (some (-1)) = xs.length - 1 := by
    show (if (-1 : Int) < 0 then ((-1 : Int) + (xs.length : Int)).toNat else min (-1 : Int).toNat xs.length) = _
    rw [if_pos (by decide)]; omega
  rw [e, List.take_of_length_le (by rw [List.length_drop]; exact Nat.le_refl _)]
section
variable {P : Program} {w : World} {K : PySem.W.Frag} {mg : Str → Option Value} {base : Heap}
theorem sl_any {H : Hp} {a : Addr} {xs : List V} {lo hi : Option Int} (hP : SqT K H a xs) {Q : VK} (h : ∀ (H' : Hp) (b : Addr), Same H H' → SqT K H' b (cutV xs lo hi) → Q (.ref b) H') : rSlA K (.ref a) lo hi H Q := by
  refine ⟨a, _, rfl, hP, fun hw => ?_, fun _ p np => ?_⟩
  · refine h H a (Same.refl _) ?_
    have e : cutV xs lo hi = xs := by
      unfold cutV
      rw [hw.1, hw.2, List.drop_zero, Nat.sub_zero, List.take_length]
    rw [e]; exact hP
  · exact h _ p (sameNew np) (SqT.of upd_same)
theorem cat_any {H : Hp} {a b : Addr} {xs ys : List V} (ha : SqT K H a xs) (hb : SqT K H b ys) (hz : xs.length + ys.length ≤ 1000000) {Q : VK} (h : ∀ (H' : Hp) (c : Addr), Same H H' → SqT K H' c (xs ++ ys) → Q (.ref c) H') : rCatA K (.ref a) (.ref b) H Q := by
  refine ⟨a, b, xs, ys, rfl, rfl, ha, hb, Nat.le_of_lt (small hz), fun z => ?_, fun _ z => ?_, fun _ _ p np => ?_⟩
  · subst z; exact h H b (Same.refl _) hb
  · subst z; exact h H a (Same.refl _) (by rw [List.append_nil]; exact ha)
  · exact h _ p (sameNew np) (SqT.of upd_same)
def RowsIn (lo hi : Int) (rows : List (List Int)) : Prop := ∀ row ∈ rows, 1 ≤ row.length ∧ row.length ≤ 10 ∧ ∀ x ∈ row, lo ≤ x ∧ x ≤ hi
end
end Pv

namespace Pv
open PySem PySem.Spec PyProof.Rows L2
abbrev sBent : Stmt := topS 29
theorem scBent : FnScope ["_law_state", "_law_value", "_law_spot", "_law_way"] ["_law_state", "_law_value"] (defScope sBent) := ⟨rfl, rfl, rfl, by decide +kernel, rfl, by decide +kernel, by decide +kernel⟩
theorem seq_with {t u : TS} {D : Ends} {σ : L2.St} {H : Hp} (Pre : L2.St → Hp → Prop) (rest : ∀ σ1 H1, Pre σ1 H1 → u D σ1 H1) (main : (∀ σ1 H1, Pre σ1 H1 → u D σ1 H1) → tSeq t u D σ H) : tSeq t u D σ H := main rest
theorem fit_sub {M k W W' : Nat} {ds es : List PyData} (h : Fit M k W (.tuple ds)) (hs : ∀ e ∈ es, e ∈ ds) (hw : wtAll es + 3 ≤ W') : Fit (M + 1) (k + 2) W' (.tuple es) := by
  obtain ⟨h1, h2, _⟩ := h.parts
  exact Fit.tup (fun e he => ⟨fit_mono (by omega) (h1 e (hs e he)).1, by have := (h1 e (hs e he)).2; omega⟩) (by omega) hw
theorem fit_subL {M k W W' : Nat} {ds es : List PyData} (h : Fit M k W (.tuple ds)) (hs : ∀ e ∈ es, e ∈ ds) (hw : wtAll es + 3 ≤ W') : Fit (M + 1) (k + 2) W' (.list es) := by
  obtain ⟨h1, h2, _⟩ := h.parts
  exact Fit.lst (fun e he => ⟨fit_mono (by omega) (h1 e (hs e he)).1, by have := (h1 e (hs e he)).2; omega⟩) (by omega) hw
theorem wtAll_at {ds : List PyData} {i : Nat} {d : PyData} (h : ds[i]? = some d) : wtAll ds = wtAll (ds.take i) + (wt d + 2) + wtAll (ds.drop (i + 1)) := by
  have e : ds.take (i + 1) = ds.take i ++ [d] := take_snoc h
  have := wtAll_split ds (i + 1)
  rw [e, wtAll_app] at this
  simp only [wtAll] at this
  omega
section
variable {P : Program} {w : World} {K : PySem.W.Frag} {mg : Str → Option Value} {base : Heap}
def spB (K : PySem.W.Frag) : Nat → Sp
  | 0 => fun _ _ _ _ => False
  | n + 1 => fun vs H Q _ => ∃ (st c r : Addr) (t : Nat) (v : V) (d : PyData) (M k W : Nat), vs = [.ref st, v] ∧ DS H st c r t ∧ t + 10 * (n + 1) ≤ 1000000 ∧ Dq K st r H v d ∧ Fit M k W d ∧ 10 ^ 29 ≤ M ∧ W ≤ 100000 ∧ d.depth + 2 ≤ n ∧
    ∀ (H' : Hp) (v' : V) (d' : PyData) (t' : Nat), DS H' st c r t' → t' ≤ t + 10 * (n + 1) → Ext st r H H' → Dq K st r H' v' d' → Fit (M + 1) (k + 2) (2 * W + 100) d' → Q v' H'
set_option maxHeartbeats 4000000 in
theorem ok_bent {f fD fO : Addr} {fd fdD fdO : FuncData} (F : Fun K "_law_bent" "_law_bent" sBent f fd) (b : Binds K fd ["_law_state", "_law_value"] []) (g : mg "_law_bent" = some (.ref f))
    (FD : Fun K "_law_draw" "_law_draw" sDraw fD fdD) (bD : Binds K fdD ["_law_state", "_law_below"] []) (gD : mg "_law_draw" = some (.ref fD)) (GD : FnOk P w K mg base CX0 1 fD fdD ["_law_state", "_law_below"] spDraw)
    (FO : Fun K "_law_odd" "_law_odd" sOdd fO fdO) (bO : Binds K fdO ["_law_state"] []) (gO : mg "_law_odd" = some (.ref fO)) (GO : FnOk P w K mg base CX0 2 fO fdO ["_law_state"] (spOdd K))
    (mi : mg "isinstance" = none) (mt : mg "tuple" = none) (ml : mg "len" = none) (mli : mg "list" = none) (mint : mg "int" = none) (mb : mg "bool" = none) :
    ∀ n, FnOk P w K mg base CX0 n f fd ["_law_state", "_law_value"] (spB K n)
  | 0 => ⟨fun _ _ _ _ h => h.elim, fun _ _ _ _ _ _ _ _ _ _ _ _ _ h => h.elim⟩
  | n + 1 => by
    have G := ok_bent F b g FD bD gD GD FO bO gO GO mi mt ml mli mint mb n
    refine F.ok scBent (fun vs H Q E h => ?_) (fun cdv A outer s H vs Q E hr h => ?_)
    · obtain ⟨st, c, r, t, v, d, M, k, W, rfl, _⟩ := h; rfl
    · obtain ⟨st, c, r, t, v, d, M, k, W, rfl, d0, ht, hd, hf, hM, hW, hdep, q⟩ := h
      have hu0 : (A.deeper (envOfC "_law_bent" (defScope sBent) s.heap.objs.size f cdv)).units < cLine := by have := hr.un; omega
      refine ⟨_, pss_cons (ps_if (PW.pt (pw_and (pt_val (pe_callB call_isi (by rfl) mi (by decide +kernel) (pa_cons (pv 1) (pa_cons (pe_bltn (v := .ty "tuple") (by rfl) mt (by decide +kernel) rfl) pa_nil))))
            (pw_and (pt_cmpR (op_neNilT hu0) (pv 1) (pe_tup pa_nil) (nomark _)) (pw_and1 (pt_cmpR op_gt (pe_call GD (hr.mono (by omega)) (by rfl) gD FD.kp bD .nil pass0 (pa_cons (pv 0) (pa_cons pe_int pa_nil))) pe_int (nomark _))))))
          (pss_cons (ps_set (i := 2) scBent.nd rfl (.inl rfl) (pe_call GD (hr.mono (by omega)) (by rfl) gD FD.kp bD .nil pass0 (pa_cons (pv 0) (pa_cons (pe_callB call_len_seq (by rfl) ml PySem.boot_len (pa_cons (pv 1) pa_nil)) pa_nil))))
          (pss_one (ps_ret (pe_op op_catA (pe_op op_catA (pe_slice sl_tupA (pv 1) po_none (po_some (pv 2))) (pe_tup (pa_cons (pe_call G hr (by rfl) g F.kp b .nil pass0 (pa_cons (pv 0) (pa_cons (pe_ix ix_tup (pv 1) (pv 2) (fun _ _ => rfl)) pa_nil))) pa_nil)))
            (pe_slice sl_tupA (pv 1) (po_some (pe_op op_add (pv 2) pe_int)) po_none))))) pss_nil)
        (pss_cons (ps_set (i := 3) scBent.nd rfl (.inl rfl) (pe_call GD (hr.mono (by omega)) (by rfl) gD FD.kp bD .nil pass0 (pa_cons (pv 0) (pa_cons pe_int pa_nil))))
        (pss_cons (ps_if (PW.pt (pw_and (pt_val (pe_callB call_isi (by rfl) mi (by decide +kernel) (pa_cons (pv 1) (pa_cons (pe_bltn (v := .ty "tuple") (by rfl) mt (by decide +kernel) rfl) pa_nil)))) (pw_and1 (pt_cmpR op_lt (pv 3) pe_int (nomark _)))))
          (pss_one (ps_ret (pe_ix ix_list (pe_lst (pa_cons (pe_slice sl_tupA (pv 1) (po_some pe_int) po_none) (pa_cons (pe_op op_catA (pv 1) (pe_slice sl_tupA (pv 1) (po_some (pe_un un_neg pe_int)) po_none))
            (pa_cons (pe_callTy call_listS (by rfl) mli (by decide +kernel) (pa_cons (pv 1) pa_nil)) (pa_cons (pe_revT (pv 1)) pa_nil))))) (pv 3) (fun _ _ => rfl)))) pss_nil)
        (pss_cons (ps_if (PW.pt (pw_and (pt_val (pe_callB call_isi (by rfl) mi (by decide +kernel) (pa_cons (pv 1) (pa_cons (pe_bltn (v := .ty "int") (by rfl) mint (by decide +kernel) rfl) pa_nil))))
            (pw_and (pt_not (pt_val (pe_callB call_isi (by rfl) mi (by decide +kernel) (pa_cons (pv 1) (pa_cons (pe_bltn (v := .ty "bool") (by rfl) mb (by decide +kernel) rfl) pa_nil))))) (pw_and1 (pt_cmpR op_lt (pv 3) pe_int (nomark _))))))
          (pss_one (ps_ret (pe_ix ix_list (pe_lst (pa_cons (pe_op op_add (pv 1) pe_int) (pa_cons (pe_op op_sub (pv 1) pe_int) (pa_cons (pe_cmpR op_eq (pv 1) pe_int (nomark _)) (pa_cons (pe_op op_sub pe_int (pv 1)) pa_nil))))) (pv 3) (fun _ _ => rfl)))) pss_nil)
        (pss_one (ps_ret (pe_call GO (hr.mono (by omega)) (by rfl) gO FO.kp bO .nil pass0 (pa_cons (pv 0) pa_nil))))))), ?_⟩
      refine seq_with (fun σ1 H1 => σ1 = [some (.ref st), some v, none, none] ∧ ∃ t1, DS H1 st c r t1 ∧ t1 ≤ t + 1 ∧ Ext st r H H1) ?rest (fun rest => ?main)
      case main =>
        refine ⟨v, rfl, v, .ty "tuple", _, _, _, rfl, .ty _, hd.ty, kit_tup d, _, rfl, ite2 (fun h1 => ?_) (fun h1 => ?_)⟩
        · cases d with
          | none | bool _ | int _ | str _ | list _ | dict _ => simp [isTup] at h1
          | tuple ds =>
          cases hd with
          | @tup a xs _ hT ha =>
          have hl := DqAll.len ha
          obtain ⟨hp1, hp2, hp3⟩ := hf.parts
          have hwl := wtAll_len ds
          refine ⟨.ref a, rfl, Nat.zero_le _, fun e ne => ⟨a, e, xs, rfl, rfl, (TupK.new ne).sq hT, SqT.of upd_same, _, rfl, ite2 (fun h2 => ?_) (fun h2 => ?_)⟩⟩
          · have hxs : 0 < xs.length := by
              cases xs with
              | nil => simp at h2
              | cons _ _ => simp
            have se : Same H (upd H e (.tup [])) := sameNew ne
            refine ⟨.ref st, rfl, st, c, r, t, 5, rfl, d0.same se, by omega, by decide, by decide, fun H1 g5 g50 g51 D1 X1 => ⟨_, _, rfl, rfl, _, rfl, ite2 (fun h3 => ?_) (fun h3 => ?_)⟩⟩
            · have X01 := (Ext.of se).trans X1
              have L1 := Lasts.ext d0 X01
              -- spot
              refine ⟨.ref st, rfl, .ref a, rfl, a, xs, rfl, .inr (L1.tk.sq hT), st, c, r, t + 1, _, rfl, D1, by omega, by omega, by omega, fun H2 sp s0 s1 D2 X2 => ?_⟩
              obtain ⟨sn, rfl⟩ : ∃ m : Nat, sp = m := ⟨sp.toNat, by omega⟩
              have hsn : sn < xs.length := by omega
              have X02 := X01.trans X2
              have L2' := Lasts.ext d0 X02
              have hT2 := L2'.tk.sq hT
              refine ⟨.ref a, rfl, .int sn, rfl, sn, rfl, sl_any (K := K) (a := a) (xs := xs) (lo := none) (hi := some (sn : Int)) hT2 (fun H3 b3 s3 hb3 => ?_)⟩
              rw [cut_to] at hb3
              obtain ⟨de, hde, hxe⟩ := DqAll.at ha (List.getElem?_eq_getElem hsn)
              have hmem := List.mem_of_getElem? hde
              obtain ⟨hfe, hdd, _⟩ := hf.at hmem
              obtain ⟨n', rfl⟩ : ∃ n', n = n' + 1 := ⟨n - 1, by omega⟩
              have hwa := wtAll_at hde
              refine ⟨.ref st, rfl, .ref a, rfl, .int sn, rfl, a, xs, _, _, rfl, rfl, (TupK.of s3).sq hT2, atI_nat (List.getElem?_eq_getElem hsn), st, c, r, t + 1 + 1, _, de, M, k - 1, wt de, rfl, D2.same s3, by omega, hxe.lasts (L2'.trans (.of s3)), ⟨hfe.ok, hfe.dp, Nat.le_refl _⟩, hM, by omega, by omega, fun H4 v4 d4 t4 D4 ht4 X4 hv4 hf4 => ?_⟩
              have L24 : Lasts st r H2 H4 := Lasts.ext D2 ((Ext.of s3).trans X4)
              refine ⟨(show (1 : Nat) ≤ sizeLine by decide), fun R nR => ?_⟩
              refine cat_any (xs := xs.take sn) (ys := [v4]) ((TupK.new nR).sq ((X4.tup (D2.same s3)).sq hb3)) (SqT.of upd_same) (by simp; omega) (fun H5 b5 s5 hb5 => ?_)
              have s45 : Same H4 H5 := (sameNew nR).trans s5
              refine ⟨.ref a, rfl, .int sn, rfl, _, _, rfl, rfl, ((sn + 1 : Nat) : Int), by simp, ?_⟩
              dsimp only [tNoPart]
              refine sl_any (K := K) (a := a) (xs := xs) (lo := some ((sn + 1 : Nat) : Int)) (hi := none) (H := H5) ((TupK.of s45).sq (L24.tk.sq hT2)) (fun H6 b6 s6 hb6 => ?_)
              rw [cut_from] at hb6
              refine cat_any ((TupK.of s6).sq hb5) hb6 (by simp; omega) (fun H7 b7 s7 hb7 => ?_)
              have s47 := (s45.trans s6).trans s7
              have L07 : Lasts st r H H7 := (L2'.trans L24).trans (.of s47)
              refine q H7 _ (.tuple (ds.take sn ++ [d4] ++ ds.drop (sn + 1))) t4 (D4.same s47) (by omega) ((X02.trans ((Ext.of s3).trans X4)).trans (Ext.of s47)) (.tup hb7 (DqAll.app (DqAll.app (DqAll.take _ (ha.lasts L07)) (.cons (hv4.lasts (.of s47)) .nil)) (DqAll.drop _ (ha.lasts L07)))) ?_
              refine Fit.tup ?_ (by omega) ?_
              · intro x hx
                rw [List.append_assoc, List.mem_append, List.mem_append, List.mem_singleton] at hx
                rcases hx with h | rfl | h
                · have := hp1 x (List.mem_of_mem_take h)
                  exact ⟨fit_mono (by omega) this.1, by omega⟩
                · exact ⟨hf4.ok, by have := hf4.dp; omega⟩
                · have := hp1 x (List.mem_of_mem_drop h)
                  exact ⟨fit_mono (by omega) this.1, by omega⟩
              · have := hf4.wt
                rw [wtAll_app, wtAll_app]
                simp only [wtAll]
                omega
            · exact rest _ _ ⟨rfl, t + 1, D1, Nat.le_refl _, (Ext.of se).trans X1⟩
          · exact rest _ _ ⟨rfl, t, d0.new ne, by omega, Ext.of (sameNew ne)⟩
        · exact rest _ _ ⟨rfl, t, d0, by omega, Ext.of (Same.refl _)⟩
      case rest =>
        rintro _ H1 ⟨rfl, t1, D1, ht1, X1⟩
        refine ⟨.ref st, rfl, st, c, r, t1, 6, rfl, D1, by omega, by decide, by decide, fun H2 way w0 w1 D2 X2 => ?_⟩
        obtain ⟨wn, rfl⟩ : ∃ m : Nat, way = m := ⟨way.toNat, by omega⟩
        have X02 := X1.trans X2
        have L02 := Lasts.ext d0 X02
        have hd2 := hd.lasts L02
        have odd : ∀ Q' : VK, (∀ v H', Q v H' → Q' v H') → ∃ (st' c' r' : Addr) (t' : Nat), [V.ref st] = [.ref st'] ∧ DS H2 st' c' r' t' ∧ t' < 1000000 ∧ ∀ (H' : Hp) (v : V) (d : PyData), DS H' st' c' r' (t' + 1) → Ext st' r' H2 H' → Dq K st' r' H' v d → Fit (10 ^ 29) 2 100 d → Q' v H' := by
          intro Q' hQ
          exact ⟨st, c, r, t1 + 1, rfl, D2, by omega, fun H3 v3 d3 D3 X3 h3 f3 => hQ _ _ (q _ _ _ _ D3 (by omega) (X02.trans X3) h3 (f3.mono (by omega) (by omega) (by omega)))⟩
        refine ⟨v, rfl, v, .ty "tuple", _, _, _, rfl, .ty _, hd2.ty, kit_tup d, _, rfl, ?_⟩
        cases d with
        | tuple ds =>
          cases hd2 with
          | @tup a xs _ hT ha =>
          have hl := DqAll.len ha
          obtain ⟨hp1, hp2, hp3⟩ := hf.parts
          have hwl := wtAll_len ds
          refine iteT ⟨.int wn, rfl, _, _, rfl, rfl, _, rfl, ite2 (fun h1 => ?_) (fun h1 => ?_)⟩
          · have h4 : wn < 4 := by have := of_decide_eq_true h1; omega
            refine ⟨.ref a, rfl, 1, rfl, ?_⟩
            dsimp only [tNoPart]
            refine sl_any (K := K) (a := a) (xs := xs) (lo := some ((1 : Nat) : Int)) (hi := none) (H := H2) hT (fun H3 b3 s3 hb3 => ?_)
            rw [cut_from] at hb3
            have hT3 := (TupK.of s3).sq hT
            refine ⟨.ref a, rfl, .ref a, rfl, 1, rfl, -1, rfl, ?_⟩
            dsimp only [tNoPart]
            refine sl_any (K := K) (a := a) (xs := xs) (lo := some (-1)) (hi := none) (H := H3) hT3 (fun H4 b4 s4 hb4 => ?_)
            rw [cut_last] at hb4
            refine cat_any ((TupK.of s4).sq hT3) hb4 (by simp; omega) (fun H5 b5 s5 hb5 => ?_)
            have hT5 := (TupK.of (s4.trans s5)).sq hT3
            refine ⟨.ref a, rfl, a, xs, rfl, hT5, fun L nL mL => ⟨.ref a, rfl, a, xs, rfl, (TupK.new nL).sq hT5, fun p np => ⟨(show (4 : Nat) ≤ sizeLine by decide), fun Z nZ => ?_⟩⟩⟩
            have s25 := (s3.trans s4).trans s5
            have D5 := D2.same s25
            obtain ⟨oL1, _, oL2⟩ := D5.off nL
            have sL : Same H5 (upd H5 L (.lst xs)) := sameNew nL
            have sp : Same (upd H5 L (.lst xs)) (upd (upd H5 L (.lst xs)) p (.tup xs.reverse)) := sameNew np
            have sZ : Same (upd (upd H5 L (.lst xs)) p (.tup xs.reverse)) (upd (upd (upd H5 L (.lst xs)) p (.tup xs.reverse)) Z (.lst [.ref b3, .ref b5, .ref L, .ref p])) := sameNew nZ
            have s5Z := (sL.trans sp).trans sZ
            have s2Z := s25.trans s5Z
            have haZ := ha.lasts (Lasts.of (st := st) (r := r) s2Z)
            have hall : DqAll K st r (upd (upd (upd H5 L (.lst xs)) p (.tup xs.reverse)) Z (.lst [.ref b3, .ref b5, .ref L, .ref p])) [.ref b3, .ref b5, .ref L, .ref p] [.tuple (ds.drop 1), .tuple (ds ++ ds.drop (xs.length - 1)), .list ds, .tuple ds.reverse] :=
              .cons (.tup ((TupK.of ((s4.trans s5).trans s5Z)).sq hb3) (haZ.drop 1)) (.cons (.tup ((TupK.of s5Z).sq hb5) (haZ.app (haZ.drop _))) (.cons (.lst ((sp.trans sZ) _ _ upd_same) oL1 oL2 mL haZ) (.cons (.tup ((TupK.of sZ).sq (SqT.of upd_same)) haZ.rev) .nil)))
            have hfit : ∀ x ∈ [PyData.tuple (ds.drop 1), .tuple (ds ++ ds.drop (xs.length - 1)), .list ds, .tuple ds.reverse], Fit (M + 1) (k + 2) (2 * W + 100) x := by
              intro x hx
              have w1 := wtAll_split ds 1
              have w2 := wtAll_split ds (xs.length - 1)
              simp only [List.mem_cons, List.not_mem_nil, or_false] at hx
              rcases hx with rfl | rfl | rfl | rfl
              · exact fit_sub hf (fun e he => List.mem_of_mem_drop he) (by omega)
              · exact fit_sub hf (fun e he => by
                  rcases List.mem_append.mp he with h | h
                  · exact h
                  · exact List.mem_of_mem_drop h) (by rw [wtAll_app]; omega)
              · exact fit_subL hf (fun e he => he) (by omega)
              · exact fit_sub hf (fun e he => List.mem_reverse.mp he) (by rw [wtAll_rev]; omega)
            have hn4 : wn < ([.ref b3, .ref b5, .ref L, .ref p] : List V).length := h4
            obtain ⟨dd, hdd, hdq⟩ := DqAll.at hall (List.getElem?_eq_getElem hn4)
            exact ⟨.int wn, rfl, Z, _, _, _, rfl, rfl, SqL.of upd_same, atI_nat (List.getElem?_eq_getElem hn4), q _ _ _ _ (D2.same s2Z) (by omega) (X02.trans (Ext.of s2Z)) hdq (hfit dd (List.mem_of_getElem? hdd))⟩
          · refine ⟨.ref a, rfl, .ref a, .ty "int", _, _, _, rfl, .ty _, ty_sq hT, kit_int (.tuple ds), _, rfl, iteF ?_⟩
            exact ⟨.ref st, rfl, odd _ fun _ _ h => h⟩
        | int i =>
          cases hd2
          refine iteF ⟨.int i, rfl, .int i, .ty "int", _, _, _, rfl, .ty _, .base (.int i), kit_int (.int i), _, rfl, iteT ?_⟩
          refine ⟨.int i, rfl, .int i, .ty "bool", _, _, _, rfl, .ty _, .base (.int i), kit_bool (.int i), _, rfl, iteT ?_⟩
          refine ⟨.int wn, rfl, _, _, rfl, rfl, _, rfl, ite2 (fun h1 => ?_) (fun h1 => ?_)⟩
          · have h4 : wn < 4 := by have := of_decide_eq_true h1; omega
            refine ⟨.int i, rfl, _, _, rfl, rfl, .int i, rfl, _, _, rfl, rfl, .int i, rfl, rfl, .int i, rfl, _, _, rfl, rfl, (show (4 : Nat) ≤ sizeLine by decide), fun Z nZ => ?_⟩
            have hall : DqAll K st r (upd H2 Z (.lst [.int (i + 1), .int (i - 1), .bl (decide (V.int i = V.int 1)), .int (0 - i)])) [.int (i + 1), .int (i - 1), .bl (decide (V.int i = V.int 1)), .int (0 - i)] [.int (i + 1), .int (i - 1), .bool (decide (V.int i = V.int 1)), .int (0 - i)] :=
              .cons (.int _) (.cons (.int _) (.cons (.bl _) (.cons (.int _) .nil)))
            have hi := hf.ok
            simp only [fit] at hi
            have hfit : ∀ x ∈ [PyData.int (i + 1), .int (i - 1), .bool (decide (V.int i = V.int 1)), .int (0 - i)], Fit (M + 1) (k + 2) (2 * W + 100) x := by
              intro x hx
              simp only [List.mem_cons, List.not_mem_nil, or_false] at hx
              rcases hx with rfl | rfl | rfl | rfl
              · exact Fit.int (by omega) (by omega)
              · exact Fit.int (by omega) (by omega)
              · exact ⟨by simp [fit], by simp [PyData.depth], by simp only [Pv.wt]; omega⟩
              · exact Fit.int (by omega) (by omega)
            have hn4 : wn < ([.int (i + 1), .int (i - 1), .bl (decide (V.int i = V.int 1)), .int (0 - i)] : List V).length := h4
            obtain ⟨dd, hdd, hdq⟩ := DqAll.at hall (List.getElem?_eq_getElem hn4)
            exact ⟨.int wn, rfl, Z, _, _, _, rfl, rfl, SqL.of upd_same, atI_nat (List.getElem?_eq_getElem hn4), q _ _ _ _ (D2.new nZ) (by omega) (X02.trans (Ext.of (sameNew nZ))) hdq (hfit dd (List.mem_of_getElem? hdd))⟩
          · exact ⟨.ref st, rfl, odd _ fun _ _ h => h⟩
        | bool bb =>
          cases hd2
          refine iteF ⟨.bl bb, rfl, .bl bb, .ty "int", _, _, _, rfl, .ty _, .base (.bl bb), kit_int (.bool bb), _, rfl, iteT ?_⟩
          refine ⟨.bl bb, rfl, .bl bb, .ty "bool", _, _, _, rfl, .ty _, .base (.bl bb), kit_bool (.bool bb), _, rfl, iteF ?_⟩
          exact ⟨.ref st, rfl, odd _ fun _ _ h => h⟩
        | none =>
          refine iteF ⟨v, rfl, v, .ty "int", _, _, _, rfl, .ty _, hd2.ty, kit_int .none, _, rfl, iteF ?_⟩
          exact ⟨.ref st, rfl, odd _ fun _ _ h => h⟩
        | str x =>
          refine iteF ⟨v, rfl, v, .ty "int", _, _, _, rfl, .ty _, hd2.ty, kit_int (.str x), _, rfl, iteF ?_⟩
          exact ⟨.ref st, rfl, odd _ fun _ _ h => h⟩
        | list x =>
          refine iteF ⟨v, rfl, v, .ty "int", _, _, _, rfl, .ty _, hd2.ty, kit_int (.list x), _, rfl, iteF ?_⟩
          exact ⟨.ref st, rfl, odd _ fun _ _ h => h⟩
        | dict x =>
          refine iteF ⟨v, rfl, v, .ty "int", _, _, _, rfl, .ty _, hd2.ty, kit_int (.dict x), _, rfl, iteF ?_⟩
          exact ⟨.ref st, rfl, odd _ fun _ _ h => h⟩
end
end Pv

namespace Pv
open PySem PySem.Spec PyProof.Rows L2
abbrev sTa : Stmt := topS 15
theorem scTa : FnScope ["share", "value", "number", "row"] ["share", "value"] (defScope sTa) := ⟨rfl, rfl, rfl, by decide +kernel, rfl, by decide +kernel, by decide +kernel⟩
abbrev sTR : Stmt := topS 16
theorem scTR : FnScope ["tables", "table", "column"] ["tables"] (defScope sTR) := ⟨rfl, rfl, rfl, by decide +kernel, rfl, by decide +kernel, by decide +kernel⟩
abbrev sIC : Stmt := topS 14
theorem scIC : FnScope ["instance", "assignment", "value", "share", "table"] ["instance", "assignment", "value"] (defScope sIC) := ⟨rfl, rfl, rfl, by decide +kernel, rfl, by decide +kernel, by decide +kernel⟩
def dTabs (tabs : List (List (List Int))) : PyData := .tuple (tabs.map dAsg)
theorem to_tabs (tabs : List (List (List Int))) : tupOnlyAll (tabs.map dAsg) = true := tupOnlyAll_of (by intro d hd; obtain ⟨n, _, rfl⟩ := List.mem_map.mp hd; exact to_dAsg n)
theorem to_dTabs (tabs : List (List (List Int))) : tupOnly (dTabs tabs) = true := by simp [dTabs, tupOnly, to_tabs]
def colAt (rows : List (List Int)) (j : Nat) : List Int := rows.map fun r => r.getD j 0
def colSum (rows : List (List Int)) : List Int := (List.range rows.length).map fun j => (colAt rows j).sum
def Sqr (t : List (List Int)) : Prop := 1 ≤ t.length ∧ t.length ≤ 7 ∧ ∀ r ∈ t, r.length = t.length
theorem colSum_at {t : List (List Int)} {i : Nat} (h : i < t.length) : (colSum t)[i]? = some (colAt t i).sum := by simp [colSum, h]
theorem colSum_len (t : List (List Int)) : (colSum t).length = t.length := by simp [colSum]
section
variable {P : Program} {w : World} {K : PySem.W.Frag} {mg : Str → Option Value} {base : Heap}
theorem rows_refs {H : Hp} : ∀ {t : List (List Int)} {vs : List V}, DpAll K H vs (t.map dI) → ∃ ras : List Addr, vs = ras.map V.ref ∧ ras.length = t.length ∧ ∀ (k : Nat) (ra : Addr) (row : List Int), ras[k]? = some ra → t[k]? = some row → SqT K H ra (row.map V.int)
  | [], _, h => by cases h; exact ⟨[], rfl, rfl, fun k ra row e => by simp at e⟩
  | r :: t, _, h => by
    cases h with
    | cons h1 h2 =>
      obtain ⟨ras, e, hl, hk⟩ := rows_refs h2
      obtain ⟨a, rfl, ha⟩ := dI_ref h1
      refine ⟨a :: ras, by rw [e]; rfl, by simp [hl], fun k ra row e1 e2 => ?_⟩
      cases k with
      | zero => simp at e1 e2; subst e1 e2; exact ha
      | succ k => exact hk k ra row (by simpa using e1) (by simpa using e2)
theorem tab_open {H : Hp} {v : V} {t : List (List Int)} (h : Dp K H v (dAsg t)) : ∃ (a : Addr) (ras : List Addr), v = .ref a ∧ SqT K H a (ras.map V.ref) ∧ ras.length = t.length ∧ ∀ (k : Nat) (ra : Addr) (row : List Int), ras[k]? = some ra → t[k]? = some row → SqT K H ra (row.map V.int) := by
  obtain ⟨a, xs, rfl, hT, hx⟩ := asg_open h
  obtain ⟨ras, rfl, hl, hk⟩ := rows_refs hx
  exact ⟨a, ras, rfl, hT, hl, hk⟩
theorem col_eq {t : List (List Int)} {col : List V} {n i : Nat} (hl : col.length = t.length) (hs : ∀ r ∈ t, r.length = n) (hi : i < n) (h : ∀ (k : Nat) (xs : List V), (t.map fun r => r.map V.int)[k]? = some xs → col[k]? = xs[i]?) : col = (colAt t i).map V.int := by
  apply List.ext_getElem?
  intro k
  by_cases hk : k < t.length
  · have e : (t.map fun r => r.map V.int)[k]? = some (t[k].map V.int) := by rw [List.getElem?_map, List.getElem?_eq_getElem hk]; rfl
    rw [h k _ e]
    have hr := hs t[k] (List.getElem_mem hk)
    have hik : i < t[k].length := by omega
    unfold colAt
    rw [List.getElem?_map, List.getElem?_map, List.getElem?_map, List.getElem?_eq_getElem hk, List.getElem?_eq_getElem hik]
    simp [List.getD_eq_getElem?_getD, List.getElem?_eq_getElem hik]
  · rw [List.getElem?_eq_none (by omega), List.getElem?_eq_none (by simp [colAt]; omega)]
def spTabRes (K : PySem.W.Frag) : Sp := fun vs H Q _ => ∃ (a : Addr) (tabs : List (List (List Int))), vs = [.ref a] ∧ Dp K H (.ref a) (dTabs tabs) ∧ tabs.length ≤ 900 ∧ (∀ t ∈ tabs, Sqr t) ∧ ∀ H' p, Same H H' → Dp K H' (.ref p) (dAsg (tabs.map colSum)) → Q (.ref p) H'
set_option maxHeartbeats 2000000 in
theorem ok_TR {f : Addr} {fd : FuncData} (F : Fun K "tables_result" "tables_result" sTR f fd)
    (m_zip : mg "zip" = none) (m_sum : mg "sum" = none) (m_tuple : mg "tuple" = none) :
    FnOk P w K mg base CX0 1 f fd ["tables"] (spTabRes K) := by
  refine F.ok scTR (fun vs H Q E h => ?_) (fun cdv A outer s H vs Q E hr h => ?_)
  · obtain ⟨a, tabs, rfl, _⟩ := h; rfl
  · obtain ⟨a, tabs, rfl, hD, hn, hsq, q⟩ := h
    refine ⟨_, pss_one (ps_ret (pe_callTy call_tupQ (by rfl) m_tuple (by decide +kernel) (pa_cons (pe_lc (own := [("table", 1)]) (g := gName 1) (tt := tYes) (te := tCB (rTupQ K) (tCons (tLc (iZipS K (tVar 1)) (gName 2) (tYes) (tCB (rSumT K) (tCons (tVar 2) tNil)) [2]) tNil)) rfl scTR.nd (pi_tup (pv 0)) (blkOk_by (N := ["tables", "table", "column"]) (sc := defScope sTR) (by decide +kernel)) (fun _ _ _ _ _ => pg_name (i := 1) scTR.nd rfl (.inl rfl)) (fun _ _ _ _ _ => pts_nil) (fun _ _ _ _ _ => pe_callTy call_tupQ (by rfl) m_tuple (by decide +kernel) (pa_cons (pe_lc (own := [("column", 2)]) (g := gName 2) (tt := tYes) (te := tCB (rSumT K) (tCons (tVar 2) tNil)) rfl scTR.nd (pi_zipS (by rfl) m_zip (pv 1)) (blkOk_by (N := ["tables", "table", "column"]) (sc := { kind := .function, names := [(".0", .local), ("table", .local), ("tuple", .globalImplicit), ("zip", .globalImplicit)], isGenerator := false, isCoroutine := false }) (by decide +kernel)) (fun _ _ _ _ _ => pg_name (i := 2) scTR.nd rfl (.inl rfl)) (fun _ _ _ _ _ => pts_nil) (fun _ _ _ _ _ => pe_callB (call_sumTQ rfl) (by rfl) m_sum (by decide +kernel) (pa_cons (pv 2) pa_nil))) pa_nil))) pa_nil))), ?_⟩
    cases hD with
    | @tup _ xs _ ha hx =>
    refine ⟨.ref a, rfl, a, rfl, ⟨_, ha⟩, fun D nD => lc_tup (xs := xs)
      (fun j H2 => Same H H2 ∧ ∃ vs, H2 D = some (.lst vs) ∧ vs.length = j ∧ DpAll K H2 vs (((tabs.take j).map colSum).map dI)) ⟨sameNew nD, [], upd_same, rfl, .nil⟩ (fun j H2 _ h2 => (TupK.of h2.1).sq ha) ?_ ?_⟩
    · rintro j x H2 hxj ⟨s2, vs, e2, hvl, hvs⟩
      obtain ⟨d, hd, hxd⟩ := DpAll.at hx hxj
      rw [List.getElem?_map] at hd
      obtain ⟨t, ht, rfl⟩ := Option.map_eq_some_iff.mp hd
      obtain ⟨h1, h7, hrow⟩ := hsq t (List.mem_of_getElem? ht)
      have hjl : j < tabs.length := (List.getElem?_eq_some_iff.mp ht).1
      obtain ⟨ta, ras, rfl, hT, hrl, hrs⟩ := tab_open ((TupK.of s2).dp _ _ (to_dAsg t) hxd)
      have hrs' : ∀ (H4 : Hp), Same H2 H4 → ∀ (k : Nat) (row : Addr) (xs : List V), ras[k]? = some row → (t.map fun r => r.map V.int)[k]? = some xs → SqT K H4 row xs := by
        intro H4 s4 k row xs e1 e2'
        rw [List.getElem?_map] at e2'
        obtain ⟨r, hr, rfl⟩ := Option.map_eq_some_iff.mp e2'
        exact (TupK.of s4).sq (hrs k row r e1 hr)
      refine ⟨rfl, .ref ta, rfl, ta, ras, rfl, hT, by omega, by omega, ?_, fun D2 nD2 => lc_it (walk_zipS (K := K) (rows := ras) (xss := t.map fun r => r.map V.int) (n := t.length) (by omega) (by rw [List.length_map, hrl]) ?_)
        (fun i H4 => Same H2 H4 ∧ H4 D2 = some (.lst (((colSum t).take i).map V.int))) ⟨sameNew nD2, upd_same⟩ (fun i H4 _ h4 => hrs' H4 h4.1) ?_ ?_⟩
      · intro row hr
        obtain ⟨k, hk, e⟩ := List.getElem_of_mem hr
        exact ⟨_, hrs k row t[k] (by rw [List.getElem?_eq_getElem hk, e]) (List.getElem?_eq_getElem (by omega))⟩
      · intro ys hy
        obtain ⟨r, hr, rfl⟩ := List.mem_map.mp hy
        rw [List.length_map]; exact hrow r hr
      · rintro i v H4 H5 hlt ⟨s4, e4⟩ ⟨T, col, rfl, nT, rfl, hcl, hcol⟩
        have hce := col_eq (by rw [hcl, hrl]) hrow hlt hcol
        subst hce
        refine ⟨rfl, .ref T, rfl, T, colAt t i, rfl, SqT.of upd_same, _, upNew nT e4, ?_, samePut (s4.trans (sameNew nT)) nD2, ?_⟩
        · rw [List.length_map, List.length_take]; exact small (by omega)
        · rw [upd_same, take_snoc (colSum_at hlt), List.map_append]; rfl
      · rintro H4 ⟨s4, e4⟩
        rw [List.take_of_length_le (by rw [colSum_len]; exact Nat.le_refl _)] at e4
        refine ⟨D2, _, rfl, .inl ⟨SqL.of e4, fun p np => ?_⟩⟩
        have s5 := s4.trans (sameNew (o := .tup ((colSum t).map V.int)) np)
        have e5 := s5 _ _ e2
        have tk5 : TupK (upd H4 p (.tup ((colSum t).map V.int))) (upd (upd H4 p (.tup ((colSum t).map V.int))) D (.lst (vs ++ [.ref p]))) := TupK.put e5
        refine ⟨vs, e5, by rw [hvl]; exact small (by omega), samePut (s2.trans s5) nD, _, upd_same, by simp [hvl], ?_⟩
        have et : ((tabs.take (j + 1)).map colSum).map dI = ((tabs.take j).map colSum).map dI ++ [dI (colSum t)] := by rw [take_snoc ht]; simp
        rw [et]
        exact DpAll.snoc (((TupK.of s5).trans tk5).dpAll _ _ (to_rows _) hvs) (dI_sq (tk5.sq (SqT.of upd_same)))
    · rintro H2 ⟨s2, vs, e2, hvl, hvs⟩
      rw [DpAll.len hx, List.length_map, List.take_length] at hvs
      exact ⟨D, _, rfl, .inl ⟨SqL.of e2, fun p np => q _ _ (s2.trans (sameNew np)) (.tup (SqT.of upd_same) ((TupK.new np).dpAll _ _ (to_rows _) hvs))⟩⟩
/-! is_table, is_change -/
def tableD (ns : List Int) : PyData → Bool
  | .tuple ds => decide (ds.length = ns.length) && (ns.zip ds).all (fun q => splitD (ns.length : Int) q.1 q.2)
  | _ => false
def spTable (K : PySem.W.Frag) : Sp := fun vs H Q _ => ∃ (st r a : Addr) (v : V) (ns : List Int) (d : PyData), vs = [.ref a, v] ∧ Dp K H (.ref a) (dI ns) ∧ Dq K st r H v d ∧ ns.length ≤ 900 ∧ ∀ H', Same H H' → Q (.bl (tableD ns d)) H'
set_option maxHeartbeats 2000000 in
theorem ok_Ta {f fTo fSp : Addr} {fd fdTo fdSp : FuncData} (F : Fun K "is_table" "is_table" sTa f fd)
    (FTo : Fun K "is_tuple_of" "is_tuple_of" sTupOf fTo fdTo) (bTo : Binds K fdTo ["value", "least", "most"] []) (gTo : mg "is_tuple_of" = some (.ref fTo)) (GTo : FnOk P w K mg base CX0 1 fTo fdTo ["value", "least", "most"] (spTupOf K))
    (FSp : Fun K "is_split" "is_split" sSp fSp fdSp) (bSp : Binds K fdSp ["value", "size", "total"] []) (gSp : mg "is_split" = some (.ref fSp)) (GSp : FnOk P w K mg base CX0 3 fSp fdSp ["value", "size", "total"] (spSplit K))
    (m_len : mg "len" = none) (m_zip : mg "zip" = none) (m_all : mg "all" = none) :
    FnOk P w K mg base CX0 4 f fd ["share", "value"] (spTable K) := by
  refine F.ok scTa (fun vs H Q E h => ?_) (fun cdv A outer s H vs Q E hr h => ?_)
  · obtain ⟨st, r, a, v, ns, d, rfl, _⟩ := h; rfl
  · obtain ⟨st, r, a, v, ns, d, rfl, hA, hd, hn, q⟩ := h
    refine ⟨_, pss_cons (ps_if (pt_not (pt_val (pe_call GTo (hr.mono (by omega)) (by rfl) gTo FTo.kp bTo .nil pass0 (pa_cons (pv 1) (pa_cons (pe_callB call_lenQ (by rfl) m_len PySem.boot_len (pa_cons (pv 0) pa_nil)) (pa_cons (pe_callB call_lenQ (by rfl) m_len PySem.boot_len (pa_cons (pv 0) pa_nil)) pa_nil))))))
        (pss_one (ps_ret (pe_bl))) pss_nil)
      (pss_one (ps_ret (pe_callB (cr_all rfl) (by rfl) m_all (by decide +kernel) (pa_cons (pe_lc (own := [("number", 2), ("row", 3)]) (g := gTup K 2 (gCons (gName 2) (gCons (gName 3) gNil))) (tt := tYes) (te := tCall (spSplit K) [] E0 (tCons (tVar 3) (tCons (tCB (rLenQ K) (tCons (tVar 0) tNil)) (tCons (tVar 2) tNil)))) rfl scTa.nd (RZ.pi_zipA (by rfl) m_zip (pa_cons (pv 0) (pa_cons (pv 1) pa_nil))) (blkOk_by (N := ["share", "value", "number", "row"]) (sc := defScope sTa) (by decide +kernel)) (fun _ _ _ _ _ => pg_tup rfl (pgs_cons (pg_name (i := 2) scTa.nd rfl (.inl rfl)) (pgs_cons (pg_name (i := 3) scTa.nd rfl (.inl rfl)) pgs_nil))) (fun _ _ _ _ _ => pts_nil) (fun _ _ _ _ _ => pe_call GSp (hr.mono (by omega)) (by rfl) gSp FSp.kp bSp .nil pass0 (pa_cons (pv 3) (pa_cons (pe_callB call_lenQ (by rfl) m_len PySem.boot_len (pa_cons (pv 0) pa_nil)) (pa_cons (pv 2) pa_nil))))) pa_nil)))), ?_⟩
    have hS := sq_dI hA
    refine ⟨v, rfl, .ref a, rfl, a, _, rfl, .inr hS, .ref a, rfl, a, _, rfl, .inr hS, st, r, v, d, _, _, rfl, hd, ?_⟩
    rw [List.length_map]
    cases hb : tupOfD (ns.length : Int) (ns.length : Int) d with
    | false =>
      refine ⟨_, rfl, iteT ?_⟩
      have e : tableD ns d = false := by
        cases d with
        | tuple ds =>
          have h1 := of_decide_eq_false hb
          have : ¬ ds.length = ns.length := by omega
          simp [tableD, this]
        | _ => rfl
      have := q H (Same.refl H)
      rw [e] at this
      exact this
    | true =>
    refine ⟨_, rfl, iteF ?_⟩
    cases d with
    | none | bool _ | int _ | str _ | list _ | dict _ => simp [tupOfD] at hb
    | tuple ds =>
    cases hd with
    | @tup va ys _ hV hds =>
    have ly := DqAll.len hds
    have hdl : ds.length = ns.length := by have := of_decide_eq_true hb; omega
    refine ⟨.ref a, rfl, .ref va, rfl, a, va, _, ys, rfl, .inr ⟨hS, hV, fun D nD => lc_it (walk_zipT (K := K) (a := a) (b := va) (xs := ns.map V.int) (ys := ys) rfl)
      (fun j H2 => Same H H2 ∧ H2 D = some (.lst ((((ns.take j).zip (ds.take j)).map (fun q => splitD (ns.length : Int) q.1 q.2)).map V.bl))) ⟨sameNew nD, upd_same⟩ (fun j H2 _ h2 => ⟨(TupK.of h2.1).sq hS, (TupK.of h2.1).sq hV⟩) ?_ ?_⟩⟩
    · rintro j v H2 H3 hlt ⟨s2, e2⟩ ⟨T, x, y, rfl, nT, rfl, hx, hy⟩
      have hx' : (ns.map V.int)[j]? = some x := hx
      have hy' : ys[j]? = some y := hy
      rw [List.getElem?_map] at hx'
      obtain ⟨n, hni, rfl⟩ := Option.map_eq_some_iff.mp hx'
      obtain ⟨dy, hdy, hyd⟩ := DqAll.at hds hy'
      have s3 : Same H (upd H2 T (.tup [.int n, y])) := s2.trans (sameNew nT)
      have hjl : j < ns.length := (List.getElem?_eq_some_iff.mp hni).1
      refine ⟨T, _, rfl, SqT.of upd_same, rfl, _, _, rfl, _, _, rfl, rfl, rfl, y, rfl, .ref a, rfl, a, _, rfl, .inr ((TupK.of s3).sq hS), .int n, rfl, st, r, y, dy, _, _, rfl, hyd.lasts (.of s3), by rw [List.length_map]; omega, fun H4 s4 => ⟨_, s4 _ _ (upNew nT e2), ?_, samePut (s3.trans s4) nD, ?_⟩⟩
      · rw [List.length_map, List.length_map, List.length_zip, List.length_take]; exact small (by omega)
      · rw [upd_same, zip_snoc hni hdy, List.length_map]; simp
    · rintro H2 ⟨s2, e2⟩
      rw [List.length_map, ly, zip_take, List.take_of_length_le (by rw [List.length_zip]; exact Nat.le_refl _)] at e2
      refine ⟨D, _, rfl, SqL.of e2, ?_⟩
      have e : tableD ns (.tuple ds) = ((ns.zip ds).map (fun q => splitD (ns.length : Int) q.1 q.2)).all id := by
        rw [List.all_map]
        simp [tableD, hdl]
      have := q H2 s2
      rw [e] at this
      exact this
def tabRows : PyData → List (List Int)
  | .tuple rs => rs.map rowD
  | _ => []
def changeD (cs : List Int) (gs : List Gp) (asg : List (List Int)) : PyData → Bool
  | .tuple ts => decide (ts.length = asg.length) && ((asg.zip ts).all (fun q => tableD q.1 q.2) && isAD cs gs (dAsg ((ts.map tabRows).map colSum)))
  | _ => false
theorem splitD_row {n t : Int} {d : PyData} (h : splitD n t d = true) : d = dI (rowD d) ∧ ((rowD d).length : Int) = n ∧ shareOk t (rowD d) = true := by
  unfold splitD at h
  cases e : intsOf d with
  | none => rw [e] at h; simp at h
  | some row =>
    rw [e] at h
    have hr : rowD d = row := by unfold rowD; rw [e]; rfl
    rw [hr]
    have h' : decide ((row.length : Int) = n) = true ∧ shareOk t row = true := by simpa using h
    refine ⟨?_, of_decide_eq_true h'.1, h'.2⟩
    cases d with
    | tuple ds => have e' : intsAll ds = some row := e; rw [intsAll_eq e']; rfl
    | _ => simp [intsOf] at e
theorem table_rows {ns : List Int} {d : PyData} (h : tableD ns d = true) : d = dAsg (tabRows d) ∧ (tabRows d).length = ns.length ∧ (∀ r ∈ tabRows d, r.length = ns.length) ∧ ∀ (k : Nat) (n : Int) (r : List Int), ns[k]? = some n → (tabRows d)[k]? = some r → shareOk n r = true := by
  cases d with
  | tuple ds =>
    simp only [tableD, Bool.and_eq_true, decide_eq_true_eq] at h
    obtain ⟨hl, ha⟩ := h
    have hat : ∀ (k : Nat) (n : Int) (d : PyData), ns[k]? = some n → ds[k]? = some d → splitD (ns.length : Int) n d = true := fun k n d h1 h2 =>
      List.all_eq_true.mp ha (n, d) (List.mem_of_getElem? (i := k) (by rw [List.getElem?_zip_eq_some]; exact ⟨h1, h2⟩))
    have hall : ∀ d ∈ ds, d = dI (rowD d) ∧ (rowD d).length = ns.length := fun d hd => by
      obtain ⟨k, hk, e⟩ := List.getElem_of_mem hd
      obtain ⟨h1, h2, _⟩ := splitD_row (hat k ns[k] d (List.getElem?_eq_getElem (by omega)) (by rw [List.getElem?_eq_getElem hk, e]))
      exact ⟨h1, by omega⟩
    refine ⟨?_, by simp [tabRows, hl], fun r hr => ?_, fun k n r h1 h2 => ?_⟩
    · simp only [tabRows, dAsg, List.map_map]
      congr 1
      conv => lhs; rw [← List.map_id ds]
      exact List.map_congr_left fun d hd => (hall d hd).1
    · obtain ⟨d, hd, rfl⟩ := List.mem_map.mp hr
      exact (hall d hd).2
    · have h2' : (ds.map rowD)[k]? = some r := h2
      rw [List.getElem?_map] at h2'
      obtain ⟨d, hd, rfl⟩ := Option.map_eq_some_iff.mp h2'
      exact (splitD_row (hat k n d h1 hd)).2.2
  | _ => simp [tableD] at h
theorem tables_rows {asg : List (List Int)} {ts : List PyData} (hl : ts.length = asg.length) (h : (asg.zip ts).all (fun q => tableD q.1 q.2) = true) : ts = (ts.map tabRows).map dAsg := by
  rw [List.map_map]
  conv => lhs; rw [← List.map_id ts]
  refine List.map_congr_left fun d hd => ?_
  obtain ⟨k, hk, e⟩ := List.getElem_of_mem hd
  have := List.all_eq_true.mp h (asg[k]'(by omega), d) (List.mem_of_getElem? (i := k) (by rw [List.getElem?_zip_eq_some]; exact ⟨List.getElem?_eq_getElem (by omega), by rw [List.getElem?_eq_getElem hk, e]⟩))
  exact (table_rows this).1
theorem tables_sqr {asg : List (List Int)} {ts : List PyData} (hl : ts.length = asg.length) (h : (asg.zip ts).all (fun q => tableD q.1 q.2) = true) (ha : ∀ r ∈ asg, 1 ≤ r.length ∧ r.length ≤ 7) : ∀ t ∈ ts.map tabRows, Sqr t := by
  intro t ht
  obtain ⟨d, hd, rfl⟩ := List.mem_map.mp ht
  obtain ⟨k, hk, e⟩ := List.getElem_of_mem hd
  have := List.all_eq_true.mp h (asg[k]'(by omega), d) (List.mem_of_getElem? (i := k) (by rw [List.getElem?_zip_eq_some]; exact ⟨List.getElem?_eq_getElem (by omega), by rw [List.getElem?_eq_getElem hk, e]⟩))
  obtain ⟨_, h2, h3, _⟩ := table_rows this
  dsimp only at h2 h3
  have hb := ha (asg[k]'(by omega)) (List.getElem_mem _)
  exact ⟨by omega, by omega, fun r hr => by rw [h3 r hr, h2]⟩
theorem colSum_tabs_len (ts : List PyData) : ((ts.map tabRows).map colSum).length = ts.length := by simp
def spIsC (K : PySem.W.Frag) : Sp := fun vs H Q _ => ∃ (st r i a : Addr) (v : V) (cs : List Int) (gs : List Gp) (asg : List (List Int)) (d : PyData), vs = [.ref i, .ref a, v] ∧ Dp K H (.ref i) (dInst cs gs) ∧ Dp K H (.ref a) (dAsg asg) ∧ Dq K st r H v d ∧
  cs.length ≤ 900 ∧ gs.length ≤ 900 ∧ InR cs.length gs ∧ (∀ g ∈ gs, g.1.length ≤ 900) ∧ asg.length ≤ 900 ∧ (∀ r ∈ asg, 1 ≤ r.length ∧ r.length ≤ 7) ∧ ∀ H', Same H H' → Q (.bl (changeD cs gs asg d)) H'
set_option maxHeartbeats 2000000 in
theorem ok_IC {f fTo fTa fTR fIA : Addr} {fd fdTo fdTa fdTR fdIA : FuncData} (F : Fun K "is_change" "is_change" sIC f fd)
    (FTo : Fun K "is_tuple_of" "is_tuple_of" sTupOf fTo fdTo) (bTo : Binds K fdTo ["value", "least", "most"] []) (gTo : mg "is_tuple_of" = some (.ref fTo)) (GTo : FnOk P w K mg base CX0 1 fTo fdTo ["value", "least", "most"] (spTupOf K))
    (FTa : Fun K "is_table" "is_table" sTa fTa fdTa) (bTa : Binds K fdTa ["share", "value"] []) (gTa : mg "is_table" = some (.ref fTa)) (GTa : FnOk P w K mg base CX0 4 fTa fdTa ["share", "value"] (spTable K))
    (FTR : Fun K "tables_result" "tables_result" sTR fTR fdTR) (bTR : Binds K fdTR ["tables"] []) (gTR : mg "tables_result" = some (.ref fTR)) (GTR : FnOk P w K mg base CX0 1 fTR fdTR ["tables"] (spTabRes K))
    (FIA : Fun K "is_assignment" "is_assignment" sIA fIA fdIA) (bIA : Binds K fdIA ["instance", "value"] []) (gIA : mg "is_assignment" = some (.ref fIA)) (GIA : FnOk P w K mg base CX0 4 fIA fdIA ["instance", "value"] (spIsA K))
    (m_len : mg "len" = none) (m_zip : mg "zip" = none) (m_all : mg "all" = none) :
    FnOk P w K mg base CX0 5 f fd ["instance", "assignment", "value"] (spIsC K) := by
  refine F.ok scIC (fun vs H Q E h => ?_) (fun cdv A outer s H vs Q E hr h => ?_)
  · obtain ⟨st, r, i, a, v, cs, gs, asg, d, rfl, _⟩ := h; rfl
  · obtain ⟨st, r, i, a, v, cs, gs, asg, d, rfl, hI, hA, hd, hcs, hgn, hin, hgl, han, hab, q⟩ := h
    refine ⟨_, pss_cons (ps_if (pt_not (pt_val (pe_call GTo (hr.mono (by omega)) (by rfl) gTo FTo.kp bTo .nil pass0 (pa_cons (pv 2) (pa_cons (pe_callB call_lenQ (by rfl) m_len PySem.boot_len (pa_cons (pv 1) pa_nil)) (pa_cons (pe_callB call_lenQ (by rfl) m_len PySem.boot_len (pa_cons (pv 1) pa_nil)) pa_nil))))))
        (pss_one (ps_ret (pe_bl))) pss_nil)
      (pss_cons (ps_if (pt_not (pt_val (pe_callB (cr_all rfl) (by rfl) m_all (by decide +kernel) (pa_cons (pe_lc (own := [("share", 3), ("table", 4)]) (g := gTup K 2 (gCons (gName 3) (gCons (gName 4) gNil))) (tt := tYes) (te := tCall (spTable K) [] E0 (tCons (tVar 3) (tCons (tVar 4) tNil))) rfl scIC.nd (RZ.pi_zipA (by rfl) m_zip (pa_cons (pv 1) (pa_cons (pv 2) pa_nil))) (blkOk_by (N := ["instance", "assignment", "value", "share", "table"]) (sc := defScope sIC) (by decide +kernel)) (fun _ _ _ _ _ => pg_tup rfl (pgs_cons (pg_name (i := 3) scIC.nd rfl (.inl rfl)) (pgs_cons (pg_name (i := 4) scIC.nd rfl (.inl rfl)) pgs_nil))) (fun _ _ _ _ _ => pts_nil) (fun _ _ _ _ _ => pe_call GTa (hr.mono (by omega)) (by rfl) gTa FTa.kp bTa .nil pass0 (pa_cons (pv 3) (pa_cons (pv 4) pa_nil)))) pa_nil))))
        (pss_one (ps_ret (pe_bl))) pss_nil)
      (pss_one (ps_ret (pe_call GIA (hr.mono (by omega)) (by rfl) gIA FIA.kp bIA .nil pass0 (pa_cons (pv 0) (pa_cons (pe_call GTR (hr.mono (by omega)) (by rfl) gTR FTR.kp bTR .nil pass0 (pa_cons (pv 2) pa_nil)) pa_nil)))))), ?_⟩
    obtain ⟨_, xs, e, hS, hxs⟩ := asg_open hA
    cases e
    have lx := DpAll.len hxs
    rw [List.length_map] at lx
    refine ⟨v, rfl, .ref a, rfl, a, _, rfl, .inr hS, .ref a, rfl, a, _, rfl, .inr hS, st, r, v, d, _, _, rfl, hd, ?_⟩
    rw [lx]
    cases hb : tupOfD (asg.length : Int) (asg.length : Int) d with
    | false =>
      refine ⟨_, rfl, iteT ?_⟩
      have e : changeD cs gs asg d = false := by
        cases d with
        | tuple ds =>
          have h1 := of_decide_eq_false hb
          have : ¬ ds.length = asg.length := by omega
          simp [changeD, this]
        | _ => rfl
      have := q H (Same.refl H)
      rw [e] at this
      exact this
    | true =>
    refine ⟨_, rfl, iteF ?_⟩
    cases d with
    | none | bool _ | int _ | str _ | list _ | dict _ => simp [tupOfD] at hb
    | tuple ds =>
    have hd0 := hd
    cases hd with
    | @tup va ys _ hV hds =>
    have ly := DqAll.len hds
    have hdl : ds.length = asg.length := by have := of_decide_eq_true hb; omega
    refine ⟨.ref a, rfl, .ref va, rfl, a, va, xs, ys, rfl, .inr ⟨hS, hV, fun D nD => lc_it (walk_zipT (K := K) (a := a) (b := va) (xs := xs) (ys := ys) rfl)
      (fun j H2 => Same H H2 ∧ H2 D = some (.lst ((((asg.take j).zip (ds.take j)).map (fun q => tableD q.1 q.2)).map V.bl))) ⟨sameNew nD, upd_same⟩ (fun j H2 _ h2 => ⟨(TupK.of h2.1).sq hS, (TupK.of h2.1).sq hV⟩) ?_ ?_⟩⟩
    · rintro j v H2 H3 hlt ⟨s2, e2⟩ ⟨T, x, y, rfl, nT, rfl, hx, hy⟩
      have hx' : xs[j]? = some x := hx
      have hy' : ys[j]? = some y := hy
      obtain ⟨d, hd, hxd⟩ := DpAll.at hxs hx'
      rw [List.getElem?_map] at hd
      obtain ⟨row, hri, rfl⟩ := Option.map_eq_some_iff.mp hd
      obtain ⟨ra, rfl, hR⟩ := dI_ref hxd
      obtain ⟨dy, hdy, hyd⟩ := DqAll.at hds hy'
      have s3 : Same H (upd H2 T (.tup [.ref ra, y])) := s2.trans (sameNew nT)
      have hjl : j < asg.length := (List.getElem?_eq_some_iff.mp hri).1
      have hb7 := hab row (List.mem_of_getElem? hri)
      refine ⟨T, _, rfl, SqT.of upd_same, rfl, _, _, rfl, _, _, rfl, rfl, rfl, .ref ra, rfl, y, rfl, st, r, ra, y, row, dy, rfl, (TupK.of s3).dp _ _ (to_dI row) hxd, hyd.lasts (.of s3), by omega, fun H4 s4 => ⟨_, s4 _ _ (upNew nT e2), ?_, samePut (s3.trans s4) nD, ?_⟩⟩
      · rw [List.length_map, List.length_map, List.length_zip, List.length_take]; exact small (by omega)
      · rw [upd_same, zip_snoc hri hdy]; simp
    · rintro H2 ⟨s2, e2⟩
      rw [lx, ly, zip_take, List.take_of_length_le (by rw [List.length_zip]; exact Nat.le_refl _)] at e2
      refine ⟨D, _, rfl, SqL.of e2, _, rfl, ?_⟩
      cases hall : ((asg.zip ds).map (fun q => tableD q.1 q.2)).all id with
      | false =>
        have e : changeD cs gs asg (.tuple ds) = false := by
          rw [List.all_map] at hall
          simp only [changeD]
          rw [show (asg.zip ds).all (fun q => tableD q.1 q.2) = false from hall, Bool.false_and, Bool.and_false]
        have := q H2 s2
        rw [e] at this
        exact this
      | true =>
        rw [List.all_map] at hall
        have hall' : (asg.zip ds).all (fun q => tableD q.1 q.2) = true := hall
        have hts := tables_rows hdl hall'
        have hsq := tables_sqr hdl hall' hab
        have hT2 : Dp K H (.ref va) (dTabs (ds.map tabRows)) := by
          have : Dq K st r H (.ref va) (dTabs (ds.map tabRows)) := by unfold dTabs; rw [← hts]; exact hd0
          exact this.to_dp (to_dTabs _)
        refine ⟨.ref i, rfl, .ref va, rfl, va, ds.map tabRows, rfl, (TupK.of s2).dp _ _ (to_dTabs _) hT2, by rw [List.length_map]; omega, hsq, fun H3 p s3 hp => ?_⟩
        refine ⟨st, r, i, .ref p, cs, gs, dAsg ((ds.map tabRows).map colSum), rfl, (TupK.of (s2.trans s3)).dp _ _ (to_dInst _ _) hI, Dq.of_dp (to_dAsg _) hp, hcs, hgn, hin, hgl, fun H4 s4 => ?_⟩
        have e : changeD cs gs asg (.tuple ds) = isAD cs gs (dAsg ((ds.map tabRows).map colSum)) := by
          simp only [changeD]
          rw [hall', Bool.true_and, decide_eq_true hdl, Bool.true_and]
        have := q H4 ((s2.trans s3).trans s4)
        rw [e] at this
        exact this
end
end Pv

namespace Pv
open PySem PySem.Spec PyProof.Rows L2
abbrev sOr : Stmt := topS 32
theorem scOr : FnScope ["_law_state", "_law_size", "_law_names", "_law_turn"] ["_law_state", "_law_size"] (defScope sOr) := ⟨rfl, rfl, rfl, by decide +kernel, rfl, by decide +kernel, by decide +kernel⟩
abbrev sBt : Stmt := topS 31
theorem scBt : FnScope ["_law_state", "_law_numbers", "_law_others", "_law_rest", "_law_rows", "_law_number", "_law_row", "_law_spot", "_law_part"] ["_law_state", "_law_numbers", "_law_others"] (defScope sBt) := ⟨rfl, rfl, rfl, by decide +kernel, rfl, by decide +kernel, by decide +kernel⟩
abbrev sCh : Stmt := topS 33
theorem scCh : FnScope ["_law_state", "_law_one", "_law_other", "_law_numbers", "_law_others"] ["_law_state", "_law_one", "_law_other"] (defScope sCh) := ⟨rfl, rfl, rfl, by decide +kernel, rfl, by decide +kernel, by decide +kernel⟩
theorem perm_erase : ∀ (l : List Int) (k : Nat) (h : k < l.length), (l[k] :: l.eraseIdx k).Perm l
  | [], _, h => by simp at h
  | a :: l, 0, _ => by simp
  | a :: l, k + 1, h => by
    have ih := perm_erase l k (by simpa using h)
    simp only [List.getElem_cons_succ, List.eraseIdx_cons_succ]
    exact (List.Perm.swap _ _ _).trans (List.Perm.cons _ ih)
theorem nodup_step {ms l : List Int} {k : Nat} (h : k < l.length) (hn : (ms ++ l).Nodup) : ((ms ++ [l[k]]) ++ l.eraseIdx k).Nodup := by
  rw [List.append_assoc]
  exact (List.Perm.append_left ms (perm_erase l k h)).symm.nodup hn
theorem upTo_nodup (n : Nat) : (upTo n).Nodup := by
  unfold upTo
  show List.Pairwise _ _
  rw [List.pairwise_map]
  exact List.Pairwise.imp (fun h hab => h (Int.ofNat.inj hab)) (List.nodup_range (n := n))
theorem len_subI : ∀ {ks ns : List Int}, ks.Nodup → (∀ k ∈ ks, k ∈ ns) → ks.length ≤ ns.length
  | [], _, _, _ => Nat.zero_le _
  | k :: ks, ns, hn, hm => by
    obtain ⟨a, b, rfl⟩ := List.append_of_mem (hm k (by simp))
    have hk : k ∉ ks := (List.nodup_cons.mp hn).1
    have := len_subI (ks := ks) (ns := a ++ b) (List.nodup_cons.mp hn).2 (fun x hx => by
      have h1 := hm x (by simp [hx])
      have h2 : x ≠ k := fun z => hk (z ▸ hx)
      simp only [List.mem_append, List.mem_cons] at h1 ⊢
      rcases h1 with h | h | h
      · exact .inl h
      · exact absurd h h2
      · exact .inr h)
    simp at this ⊢
    omega
/-- n different numbers below n are all of them -/
theorem all_in {ord : List Int} {n : Nat} (h1 : ord.Nodup) (h2 : ∀ x ∈ ord, 0 ≤ x ∧ x < (n : Int)) (h3 : ord.length = n) {j : Nat} (hj : j < n) : (j : Int) ∈ ord := by
  refine Classical.byContradiction fun hc => ?_
  have hs : ∀ x ∈ (j : Int) :: ord, x ∈ upTo n := fun x hx => by
    rcases List.mem_cons.mp hx with rfl | hx
    · exact List.mem_map.mpr ⟨j, List.mem_range.mpr hj, rfl⟩
    · have := h2 x hx
      exact List.mem_map.mpr ⟨x.toNat, List.mem_range.mpr (by omega), by omega⟩
  have := len_subI (List.nodup_cons.mpr ⟨hc, h1⟩) hs
  rw [upTo_len] at this
  simp at this
  omega
theorem sum_set : ∀ (l : List Int) (i : Nat) (x : Int), i < l.length → (l.set i x).sum = l.sum - l.getD i 0 + x
  | [], _, _, h => by simp at h
  | a :: l, 0, x, _ => by simp; omega
  | a :: l, i + 1, x, h => by
    have := sum_set l i x (by simpa using h)
    simp only [List.set_cons_succ, List.sum_cons, this, List.getD_cons_succ]; omega
theorem sum_point : ∀ (a b c : List Int), a.length = c.length → b.length = c.length → (∀ j, j < c.length → a.getD j 0 + b.getD j 0 = c.getD j 0) → a.sum + b.sum = c.sum
  | [], [], [], _, _, _ => rfl
  | x :: a, y :: b, z :: c, h1, h2, h => by
    have h0 := h 0 (by simp)
    have ih := sum_point a b c (by simpa using h1) (by simpa using h2) (fun j hj => by have := h (j + 1) (by simpa using hj); simpa using this)
    simp at h0
    simp only [List.sum_cons]; omega
  | [], _ :: _, [], _, h, _ => by simp at h
  | _ :: _, _, [], h, _, _ => by simp at h
  | [], _, _ :: _, h, _, _ => by simp at h
  | _ :: _, [], _ :: _, _, h, _ => by simp at h
theorem getD_nn {l : List Int} (h : ∀ x ∈ l, 0 ≤ x) (j : Nat) : 0 ≤ l.getD j 0 := by
  rw [List.getD_eq_getElem?_getD]
  cases e : l[j]? with
  | none => simp
  | some x => exact h x (List.mem_of_getElem? e)
theorem zero_of_sum {l : List Int} (h : ∀ x ∈ l, 0 ≤ x) (hs : l.sum = 0) (j : Nat) : l.getD j 0 = 0 := by
  rw [List.getD_eq_getElem?_getD]
  cases e : l[j]? with
  | none => rfl
  | some x =>
    have h1 := (le_sum h).2 x (List.mem_of_getElem? e)
    have h2 := h x (List.mem_of_getElem? e)
    simp; omega
theorem sum_zero_of {l : List Int} (h : ∀ j, j < l.length → l.getD j 0 = 0) : l.sum = 0 := by
  have := sum_point l l l rfl rfl (fun j hj => by rw [h j hj]; rfl)
  omega
theorem zeros_get (n j : Nat) : (zeros n).getD j 0 = 0 := by
  rw [List.getD_eq_getElem?_getD]
  unfold zeros
  by_cases h : j < n <;> simp [h]
theorem zeros_sum (n : Nat) : (zeros n).sum = 0 := sum_zero_of fun j _ => zeros_get n j
theorem colAt_snoc (tab : List (List Int)) (row : List Int) (j : Nat) : (colAt (tab ++ [row]) j).sum = (colAt tab j).sum + row.getD j 0 := by
  unfold colAt
  rw [List.map_append, List.sum_append]
  simp
structure Btw (ns os : List Int) (tab : List (List Int)) : Prop where
  len : tab.length = ns.length
  row : ∀ r ∈ tab, r.length = ns.length
  bd : ∀ r ∈ tab, ∀ x ∈ r, 0 ≤ x ∧ x ≤ 10 ^ 12
  sum : tab.map List.sum = ns
  col : colSum tab = os
section
variable {P : Program} {w : World} {K : PySem.W.Frag} {mg : Str → Option Value} {base : Heap}
def spOrd (K : PySem.W.Frag) : Sp := fun vs H Q _ => ∃ (st c r : Addr) (t n : Nat), vs = [.ref st, .int n] ∧ DS H st c r t ∧ t + 10 ≤ 1000000 ∧ 1 ≤ n ∧ n ≤ 7 ∧
  ∀ (H' : Hp) (p : Addr) (ord : List Int), H' p = some (.lst (ord.map V.int)) → H p = none → p ≠ st → p ≠ c → p ≠ r → ord.length = n → ord.Nodup → (∀ x ∈ ord, 0 ≤ x ∧ x < (n : Int)) → DS H' st c r (t + n) → Ext st r H H' → Q (.ref p) H'
set_option maxHeartbeats 2000000 in
theorem ok_Or {f fDr : Addr} {fd fdDr : FuncData} (F : Fun K "_law_order" "_law_order" sOr f fd)
    (FDr : Fun K "_law_draw" "_law_draw" sDraw fDr fdDr) (bDr : Binds K fdDr ["_law_state", "_law_below"] []) (gDr : mg "_law_draw" = some (.ref fDr)) (GDr : FnOk P w K mg base CX0 1 fDr fdDr ["_law_state", "_law_below"] spDraw)
    (m_list : mg "list" = none) (m_range : mg "range" = none) (m_len : mg "len" = none) :
    FnOk P w K mg base CX0 2 f fd ["_law_state", "_law_size"] (spOrd K) := by
  refine F.ok scOr (fun vs H Q E h => ?_) (fun cdv A outer s H vs Q E hr h => ?_)
  · obtain ⟨st, c, r, t, n, rfl, _⟩ := h; rfl
  · obtain ⟨st, c, r, t, n, rfl, hd, ht, hn1, hn7, q⟩ := h
    refine ⟨_, pss_cons (ps_set (i := 2) scOr.nd rfl (.inr rfl) (pe_listRg rfl (by rfl) m_list (prg_1 (by rfl) m_range (pv 1))))
      (pss_one (ps_ret (pe_lc (own := [("_law_turn", 3)]) (g := gName 3) (tt := tYes) (te := tBM K "list" rPopAt (tVar 2) (tCons (tCall spDraw [] E0 (tCons (tVar 0) (tCons (tCB (rLenQ K) (tCons (tVar 2) tNil)) tNil))) tNil)) rfl scOr.nd (pi_range1 (by rfl) m_range (pa_cons (pv 1) pa_nil)) (blkOk_by (N := ["_law_state", "_law_size", "_law_names", "_law_turn"]) (sc := defScope sOr) (by decide +kernel)) (fun _ _ _ _ _ => pg_name (i := 3) scOr.nd rfl (.inl rfl)) (fun _ _ _ _ _ => pts_nil) (fun _ _ _ _ _ => pe_bm PySem.F.plainAttrs_list PySem.F.slot_list_pop PySem.F.type_list_pop mt_popAt (pv 2) (pa_cons (pe_call GDr (hr.mono (by omega)) (by rfl) gDr FDr.kp bDr .nil pass0 (pa_cons (pv 0) (pa_cons (pe_callB call_lenQ (by rfl) m_len PySem.boot_len (pa_cons (pv 2) pa_nil)) pa_nil))) pa_nil))))), ?_⟩
    refine ⟨.int n, rfl, n, rfl, RgOk.of_le (by omega) (by omega) (by omega) (by omega), fun Nm nNm => ?_⟩
    have oNm := hd.off nNm
    have d5 := hd.new nNm (o := .lst (rgV 0 n))
    have eN6 : (upd H Nm (.lst (rgV 0 n))) Nm = some (.lst ((upTo n).map V.int)) := by rw [upd_same, rgV_upTo]
    refine ⟨.int n, rfl, n, rfl, by omega, by omega, fun Ch nCh => lc_it (walk_range (lo := 0) (n := (n : Int).toNat))
      (fun j H7 => ∃ (ns ls : List Int), DS H7 st c r (t + j) ∧ Ext st r H H7 ∧ H7 Nm = some (.lst (ns.map V.int)) ∧ ns.length + j = n ∧ (∀ x ∈ ns, 0 ≤ x ∧ x < (n : Int)) ∧
        H7 Ch = some (.lst (ls.map V.int)) ∧ ls.length = j ∧ (∀ x ∈ ls, 0 ≤ x ∧ x < (n : Int)) ∧ (ls ++ ns).Nodup)
      ⟨upTo n, [], d5.new nCh, (Ext.of (sameNew nNm)).trans (Ext.of (sameNew nCh)), upNew nCh eN6, upTo_len n, fun x h => upTo_mem h, upd_same, rfl, (fun x h => by simp at h), by simpa using upTo_nodup n⟩ (fun _ _ _ _ => trivial) ?_ ?_⟩
    · rintro j v H7 H8 hltj ⟨ns, ls, d7, x7, eN7, lN7, bN7, eC7, lC7, bC7, hnd⟩ ⟨rfl, rfl⟩
      have hjn : j < n := by omega
      have oCh := d5.off nCh
      have nNC : Nm ≠ Ch := ne_of_none eN6 nCh
      have fCh : H Ch = none := freeOf nCh
      refine ⟨rfl, .ref Nm, rfl, .inl ⟨rfl, _, SqL.of eN7⟩, .ref st, rfl, .ref Nm, rfl, Nm, _, rfl, .inl (SqL.of eN7), st, c, r, t + j, _, rfl, d7, by omega, by rw [List.length_map]; omega, by rw [List.length_map]; omega, fun H9 d9 h90 h91 D9 X9 => ?_⟩
      rw [List.length_map] at h91
      have eN9 := X9 _ _ eN7 oNm.1 oNm.2.2
      have eC9 := X9 _ _ eC7 oCh.1 oCh.2.2
      have hk : d9.toNat < ns.length := by omega
      have eCz : (upd H9 Nm (.lst ((ns.map V.int).eraseIdx d9.toNat))) Ch = some (.lst (ls.map V.int)) := by rw [upd_ne nNC.symm]; exact eC9
      refine ⟨Nm, _, d9, d9.toNat, .int ns[d9.toNat], rfl, rfl, eN9, by omega, by omega, seqIndex_of h90 (by rw [List.length_map]; omega), by rw [List.getElem?_map, List.getElem?_eq_getElem hk]; rfl, _, eCz, by rw [List.length_map]; exact small (by omega),
        ns.eraseIdx d9.toNat, ls ++ [ns[d9.toNat]], (D9.put oNm.1 oNm.2.1 oNm.2.2).put oCh.1 oCh.2.1 oCh.2.2, ExtPut (ExtPut (x7.trans X9) nNm) fCh, ?_, ?_, ?_, ?_, by simp [lC7], ?_, nodup_step hk hnd⟩
      · rw [upd_ne nNC, upd_same, erase_map]
      · rw [List.length_eraseIdx_of_lt hk]; omega
      · exact fun x hx => bN7 x (List.mem_of_mem_eraseIdx hx)
      · rw [upd_same, List.map_append]; rfl
      · intro x hx
        rw [List.mem_append] at hx
        rcases hx with h | h
        · exact bC7 x h
        · simp at h; subst h; exact bN7 _ (List.getElem_mem hk)
    · rintro H7 ⟨ns, ls, d7, x7, eN7, lN7, bN7, eC7, lC7, bC7, hnd⟩
      have oCh := d5.off nCh
      have h7 : (n : Int).toNat = n := by omega
      rw [h7] at d7 lN7 lC7
      have hns : ns = [] := List.eq_nil_of_length_eq_zero (by omega)
      subst hns
      exact q _ _ ls eC7 (freeOf nCh) oCh.1 oCh.2.1 oCh.2.2 lC7 (by simpa using hnd) bC7 d7 x7
def spBt (K : PySem.W.Frag) : Sp := fun vs H Q _ => ∃ (st c r a b : Addr) (t : Nat) (ns os : List Int), vs = [.ref st, .ref a, .ref b] ∧ DS H st c r t ∧ t + 100 ≤ 1000000 ∧ Dp K H (.ref a) (dI ns) ∧ Dp K H (.ref b) (dI os) ∧ 1 ≤ ns.length ∧ ns.length ≤ 7 ∧ os.length = ns.length ∧
  (∀ x ∈ ns, 0 ≤ x ∧ x ≤ 10 ^ 12) ∧ (∀ x ∈ os, 0 ≤ x ∧ x ≤ 10 ^ 12) ∧ os.sum = ns.sum ∧
  ∀ (H' : Hp) (p : Addr) (t' : Nat) (tab : List (List Int)), DS H' st c r t' → t' ≤ t + 49 → Ext st r H H' → Dp K H' (.ref p) (dAsg tab) → Btw ns os tab → Q (.ref p) H'
set_option maxHeartbeats 8000000 in
theorem ok_Bt {f fOr : Addr} {fd fdOr : FuncData} (F : Fun K "_law_table_between" "_law_table_between" sBt f fd)
    (FOr : Fun K "_law_order" "_law_order" sOr fOr fdOr) (bOr : Binds K fdOr ["_law_state", "_law_size"] []) (gOr : mg "_law_order" = some (.ref fOr)) (GOr : FnOk P w K mg base CX0 2 fOr fdOr ["_law_state", "_law_size"] (spOrd K))
    (m_list : mg "list" = none) (m_len : mg "len" = none) (m_min : mg "min" = none) (m_tuple : mg "tuple" = none) :
    FnOk P w K mg base CX0 3 f fd ["_law_state", "_law_numbers", "_law_others"] (spBt K) := by
  refine F.ok scBt (fun vs H Q E h => ?_) (fun cdv A outer s H vs Q E hr h => ?_)
  · obtain ⟨st, c, r, a, b, t, ns, os, rfl, _⟩ := h; rfl
  · obtain ⟨st, c, r, a, b, t, ns, os, rfl, hd, ht, hA, hB, hn1, hn7, hol, hnb, hob, hsum, q⟩ := h
    refine ⟨_, pss_cons (ps_set (i := 3) scBt.nd rfl (.inl rfl) (pe_callTy call_list_of (by rfl) m_list (by decide +kernel) (pa_cons (pv 2) pa_nil)))
      (pss_cons (ps_set (i := 4) scBt.nd rfl (.inl rfl) (pe_lst (pa_nil)))
      (pss_cons (ps_for PassesOwn.never rfl (pi_tup (pv 1)) (pg_name (i := 5) scBt.nd rfl (.inl rfl))
        (pss_cons (ps_set (i := 6) scBt.nd rfl (.inl rfl) (pe_op op_rep (pe_lst (pa_cons (pe_int) pa_nil)) (pe_callB call_lenQ (by rfl) m_len PySem.boot_len (pa_cons (pv 1) pa_nil))))
        (pss_cons (ps_for PassesOwn.never rfl (pi_list (pe_call GOr (hr.mono (by omega)) (by rfl) gOr FOr.kp bOr .nil pass0 (pa_cons (pv 0) (pa_cons (pe_callB call_lenQ (by rfl) m_len PySem.boot_len (pa_cons (pv 1) pa_nil)) pa_nil)))) (pg_name (i := 7) scBt.nd rfl (.inl rfl))
          (pss_cons (ps_set (i := 8) scBt.nd rfl (.inl rfl) (pe_callB (call_min2 rfl) (by rfl) m_min (by decide +kernel) (pa_cons (pv 5) (pa_cons (pe_ix ix_list (pv 3) (pv 7) (fun _ _ => rfl)) pa_nil))))
          (pss_cons (ps_asg (pv 8) (pg_sub (pv 6) (pv 7) set_list))
          (pss_one (ps_asg (pe_tup (pa_cons (pe_op op_sub (pv 5) (pv 8)) (pa_cons (pe_op op_sub (pe_ix ix_list (pv 3) (pv 7) (fun _ _ => rfl)) (pv 8)) pa_nil))) (pg_tup rfl (pgs_cons (pg_name (i := 5) scBt.nd rfl (.inl rfl)) (pgs_cons (pg_sub (pv 3) (pv 7) set_list) pgs_nil))))))))
        (pss_one (ps_expr (pe_bm PySem.F.plainAttrs_list PySem.F.slot_list_append PySem.F.type_list_append mt_append (pv 4) (pa_cons (pe_callTy call_tupQ (by rfl) m_tuple (by decide +kernel) (pa_cons (pv 6) pa_nil)) pa_nil)))))))
      (pss_one (ps_ret (pe_callTy call_tupQ (by rfl) m_tuple (by decide +kernel) (pa_cons (pv 4) pa_nil)))))), ?_⟩
    have hSa := sq_dI hA
    have hSb := sq_dI hB
    refine ⟨.ref b, rfl, b, _, rfl, .inr hSb, fun Re nRe => ⟨Nat.zero_le _, fun Ro nRo => ?_⟩⟩
    have oRe := hd.off nRe
    have d1 := hd.new nRe (o := .lst (os.map V.int))
    have oRo := d1.off nRo
    have fRo : H Ro = none := freeOf nRo
    have nRR : Re ≠ Ro := ne_of_none upd_same nRo
    have s1 : Same H (upd (upd H Re (.lst (os.map V.int))) Ro (.lst [])) := (sameNew nRe).trans (sameNew nRo)
    refine ⟨.ref a, rfl, a, rfl, ⟨_, (TupK.of s1).sq hSa⟩, for_it (walk_tup (K := K) (a := a) (xs := ns.map V.int))
      (fun i σ Hx => ∃ (y5 y6 y7 y8 : Option V) (tx : Nat) (rest : List Int) (tab : List (List Int)) (vs : List V), σ = [some (.ref st), some (.ref a), some (.ref b), some (.ref Re), some (.ref Ro), y5, y6, y7, y8] ∧ DS Hx st c r tx ∧ tx ≤ t + 7 * i ∧ Ext st r H Hx ∧
        Hx Re = some (.lst (rest.map V.int)) ∧ rest.length = ns.length ∧ (∀ x ∈ rest, 0 ≤ x) ∧ Hx Ro = some (.lst vs) ∧ DpAll K Hx vs (tab.map dI) ∧ tab.length = i ∧ (∀ r ∈ tab, r.length = ns.length) ∧ (∀ r ∈ tab, ∀ x ∈ r, 0 ≤ x ∧ x ≤ 10 ^ 12) ∧
        tab.map List.sum = ns.take i ∧ ∀ j, j < ns.length → rest.getD j 0 + (colAt tab j).sum = os.getD j 0)
      ⟨none, none, none, none, t, os, [], [], rfl, d1.new nRo, by omega, Ext.of s1, upNew nRo upd_same, hol, fun x hx => (hob x hx).1, upd_same, .nil, rfl, (fun r h => by simp at h), (fun r h => by simp at h), rfl, fun j hj => by simp [colAt]⟩ ?_ ?_ ?_⟩
    · rintro i σ Hx _ ⟨y5, y6, y7, y8, tx, rest, tab, vs, rfl, Dx, _, Xx, _⟩
      exact (Xx.tup hd).sq hSa
    · rintro i v σ Hx Hx' hlt ⟨y5, y6, y7, y8, tx, rest, tab, vs, rfl, Dx, htx, Xx, eR, lR, bR, eO, hvs, ltab, rtab, btab, stab, ctab⟩ ⟨rfl, hx⟩
      rw [List.getElem?_map] at hx
      obtain ⟨x, hxi, rfl⟩ := Option.map_eq_some_iff.mp hx
      rw [List.length_map] at hlt
      have hxb := hnb x (List.mem_of_getElem? hxi)
      have tkx := Xx.tup hd
      have hvl : vs.length = i := by rw [DpAll.len hvs, List.length_map, ltab]
      -- row
      refine ⟨by decide, fun p0 n0 => ⟨.ref a, rfl, a, _, rfl, .inr ((TupK.new n0).sq (tkx.sq hSa)), p0, _, _, rfl, rfl, upd_same, by rw [List.length_map]; omega, by rw [List.length_map]; omega, ?_, fun Rw nRw => ?_⟩⟩
      · rw [List.length_map]; show 1 * _ ≤ sizeLine; have := small (n := ns.length) (by omega); simp; omega
      have ez : (List.replicate ((List.map V.int ns).length : Int).toNat [V.int 0]).flatten = (zeros ns.length).map V.int := by rw [zeros_V, List.length_map, Int.toNat_natCast]
      rw [ez]
      have sRw : Same Hx' (upd (upd Hx' p0 (.lst [.int 0])) Rw (.lst ((zeros ns.length).map V.int))) := (sameNew n0).trans (sameNew nRw)
      have D2 := Dx.same sRw
      have oRw := (Dx.new n0 (o := .lst [.int 0])).off nRw
      have fRw : Hx' Rw = none := freeOf nRw
      have fRwH : H Rw = none := Xx.nil Dx fRw
      have nReRw : Re ≠ Rw := ne_of_none eR fRw
      have nRoRw : Ro ≠ Rw := ne_of_none eO fRw
      generalize hH2 : upd (upd Hx' p0 (.lst [.int 0])) Rw (.lst ((zeros ns.length).map V.int)) = H2 at sRw D2
      have eRw2 : H2 Rw = some (.lst ((zeros ns.length).map V.int)) := by rw [← hH2]; exact upd_same
      -- the order
      refine ⟨.ref st, rfl, .ref a, rfl, a, _, rfl, .inr ((TupK.of sRw).sq (tkx.sq hSa)), st, c, r, tx, _, rfl, D2, by omega, by rw [List.length_map]; omega, by rw [List.length_map]; omega, fun H5 Od ord e5 fOd n1 n2 n3 lo ho bo D5 X5 => ?_⟩
      rw [List.length_map] at lo bo D5
      have nOdRe : Re ≠ Od := ne_of_none (sRw _ _ eR) fOd
      have nOdRo : Ro ≠ Od := ne_of_none (sRw _ _ eO) fOd
      have nOdRw : Rw ≠ Od := ne_of_none eRw2 fOd
      have eR5 := X5 _ _ (sRw _ _ eR) oRe.1 oRe.2.2
      have eO5 := X5 _ _ (sRw _ _ eO) oRo.1 oRo.2.2
      have eW5 := X5 _ _ eRw2 oRw.1 oRw.2.2
      have X05 : Ext st r H H5 := (Xx.trans (Ext.of sRw)).trans X5
      have tkx5 : TupK Hx' H5 := (TupK.of sRw).trans (X5.tup D2)
      refine ⟨Od, rfl, ⟨_, SqL.of e5⟩, for_it (walk_list (K := K) (a := Od) (xs := ord.map V.int))
        (fun m σ Hy => ∃ (y7 y8 : Option V) (cn : Int) (row rs : List Int), σ = [some (.ref st), some (.ref a), some (.ref b), some (.ref Re), some (.ref Ro), some (.int cn), some (.ref Rw), y7, y8] ∧ DS Hy st c r (tx + ns.length) ∧ Ext st r H Hy ∧ TupK H5 Hy ∧ Hy Od = some (.lst (ord.map V.int)) ∧
          Hy Re = some (.lst (rs.map V.int)) ∧ Hy Rw = some (.lst (row.map V.int)) ∧ Hy Ro = some (.lst vs) ∧ row.length = ns.length ∧ rs.length = ns.length ∧ (∀ z ∈ row, 0 ≤ z) ∧ (∀ z ∈ rs, 0 ≤ z) ∧ 0 ≤ cn ∧ row.sum + cn = x ∧
          (∀ j, j < ns.length → rs.getD j 0 + row.getD j 0 = rest.getD j 0) ∧ (∀ j, j < ns.length → ((j : Nat) : Int) ∉ ord.take m → row.getD j 0 = 0) ∧ ∀ j, j < ns.length → ((j : Nat) : Int) ∈ ord.take m → cn = 0 ∨ rs.getD j 0 = 0)
        ⟨y7, y8, x, zeros ns.length, rest, rfl, D5, X05, TupK.refl _, e5, eR5, eW5, eO5, by simp [zeros], lR, fun z hz => by have : z = 0 := List.eq_of_mem_replicate hz; omega, bR, hxb.1, by rw [zeros_sum]; omega, fun j _ => by rw [zeros_get]; omega, fun j _ _ => zeros_get _ _, fun j _ h => by simp at h⟩ ?_ ?_ ?_⟩
      · rintro m σ Hy _ ⟨y7, y8, cn, row, rs, rfl, _, _, _, eOd, _⟩
        exact SqL.of eOd
      · rintro m v σ Hy Hy' hltm ⟨z7, z8, cn, row, rs, rfl, Dy, Xy, tky, eOd, eRy, eWy, eOy, lrow, lrs, brow, brs, c0, hsumr, hpt, hz, hdn⟩ ⟨rfl, hv⟩
        rw [List.getElem?_map] at hv
        obtain ⟨sp, hsp, rfl⟩ := Option.map_eq_some_iff.mp hv
        have hspb := bo sp (List.mem_of_getElem? hsp)
        obtain ⟨sn, rfl⟩ : ∃ k : Nat, sp = k := ⟨sp.toNat, by omega⟩
        have hsn : sn < ns.length := by omega
        have hsr : sn < rs.length := by omega
        have hsw : sn < row.length := by omega
        have hrs : (rs.map V.int)[sn]? = some (.int rs[sn]) := by rw [List.getElem?_map, List.getElem?_eq_getElem hsr]; rfl
        have hnot : ((sn : Nat) : Int) ∉ ord.take m := by
          have hnd := ho
          intro hin
          obtain ⟨k, hk, e⟩ := List.getElem_of_mem hin
          rw [List.length_take] at hk
          rw [List.getElem_take] at e
          have hm := List.getElem?_eq_some_iff.mp hsp
          obtain ⟨hm1, hm2⟩ := hm
          have := (List.getElem_inj (h₀ := by omega) (h₁ := hm1) hnd).mp (e.trans hm2.symm)
          omega
        have hw0 := hz sn hsn hnot
        have hrsn : 0 ≤ rs[sn] := brs _ (List.getElem_mem hsr)
        have erd : rs.getD sn 0 = rs[sn] := by simp [List.getD_eq_getElem?_getD, hsr]
        refine ⟨.int cn, rfl, .ref Re, rfl, .int sn, rfl, Re, _, _, .int rs[sn], rfl, rfl, SqL.of eRy, atI_nat hrs, _, _, rfl, ?_⟩
        obtain ⟨part, hpart, hp1, hp2, hp3, hp4⟩ : ∃ part : Int, (if rs[sn] < cn then rs[sn] else cn) = part ∧ 0 ≤ part ∧ part ≤ cn ∧ part ≤ rs[sn] ∧ (cn - part = 0 ∨ rs[sn] - part = 0) := by
          refine ⟨_, rfl, ?_, ?_, ?_, ?_⟩ <;> split <;> omega
        rw [hpart]
        refine ⟨.int part, rfl, .ref Rw, rfl, .int sn, rfl, Rw, _, _, sn, rfl, rfl, eWy, ixN_nat (by rw [List.length_map]; exact hsw), ?_⟩
        have eRz : (upd Hy' Rw (.lst ((row.map V.int).set sn (.int part)))) Re = some (.lst (rs.map V.int)) := by rw [upd_ne nReRw]; exact eRy
        refine ⟨.int cn, rfl, .int part, rfl, _, _, rfl, rfl, .ref Re, rfl, .int sn, rfl, Re, _, _, .int rs[sn], rfl, rfl, SqL.of eRz, atI_nat hrs, .int part, rfl, _, _, rfl, rfl, (show (2 : Nat) ≤ sizeLine by decide), fun T nT => ?_⟩
        have eRt := upNew (o := .tup [.int (cn - part), .int (rs[sn] - part)]) nT eRz
        refine ⟨T, _, rfl, SqT.of upd_same, rfl, _, _, rfl, _, _, rfl, .ref Re, rfl, .int sn, rfl, Re, _, _, sn, rfl, rfl, eRt, ixN_nat (by rw [List.length_map]; exact hsr), rfl, ?_⟩
        have fT : Hy' T = none := freeOf nT
        have nTRe : T ≠ Re := (ne_of_none eRy fT).symm
        have nTRw : T ≠ Rw := (ne_of_none eWy fT).symm
        have nTRo : T ≠ Ro := (ne_of_none eOy fT).symm
        have nTOd : T ≠ Od := (ne_of_none eOd fT).symm
        have Dz := ((Dy.put oRw.1 oRw.2.1 oRw.2.2 (o := .lst ((row.map V.int).set sn (.int part)))).new nT (o := .tup [.int (cn - part), .int (rs[sn] - part)])).put oRe.1 oRe.2.1 oRe.2.2 (o := .lst ((rs.map V.int).set sn (.int (rs[sn] - part))))
        have gset : ∀ (l : List Int) (z : Int) (j : Nat), sn < l.length → (l.set sn z).getD j 0 = if j = sn then z else l.getD j 0 := by
          intro l z j hl
          simp only [List.getD_eq_getElem?_getD, List.getElem?_set]
          by_cases h : sn = j
          · subst h; simp [hl]
          · have h' : ¬ j = sn := fun z => h z.symm
            simp [h, h']
        have hmem : ∀ j : Nat, ((j : Nat) : Int) ∈ ord.take (m + 1) ↔ (((j : Nat) : Int) ∈ ord.take m ∨ j = sn) := by
          intro j
          rw [take_snoc hsp, List.mem_append, List.mem_singleton]
          constructor
          · rintro (h | h)
            · exact .inl h
            · exact .inr (by omega)
          · rintro (h | h)
            · exact .inl h
            · exact .inr (by omega)
        refine ⟨_, _, cn - part, row.set sn part, rs.set sn (rs[sn] - part), rfl, Dz, ExtPut ((ExtPut Xy fRwH).trans (Ext.of (sameNew nT))) nRe, ((tky.trans (TupK.put eWy)).trans (TupK.new nT)).trans (TupK.put eRt), ?_, ?_, ?_, ?_, by rw [List.length_set]; exact lrow, by rw [List.length_set]; exact lrs, ?_, ?_, by omega, ?_, ?_, ?_, ?_⟩
        · rw [upd_ne nOdRe.symm, upd_ne nTOd.symm, upd_ne nOdRw.symm]; exact eOd
        · rw [upd_same, List.map_set]
        · rw [upd_ne nReRw.symm, upd_ne nTRw.symm, upd_same, List.map_set]
        · rw [upd_ne nRR.symm, upd_ne nTRo.symm, upd_ne nRoRw]; exact eOy
        · intro z hz'
          rcases List.mem_or_eq_of_mem_set hz' with h | h
          · exact brow z h
          · omega
        · intro z hz'
          rcases List.mem_or_eq_of_mem_set hz' with h | h
          · exact brs z h
          · omega
        · rw [sum_set row sn part hsw, hw0]; omega
        · intro j hj
          rw [gset rs _ j hsr, gset row _ j hsw]
          have := hpt j hj
          by_cases hjs : j = sn
          · subst hjs
            rw [if_pos rfl, if_pos rfl]
            rw [hw0, erd] at this
            omega
          · rw [if_neg hjs, if_neg hjs]; exact this
        · intro j hj hnj
          rw [hmem] at hnj
          rw [gset row _ j hsw, if_neg (fun h => hnj (.inr h))]
          exact hz j hj (fun h => hnj (.inl h))
        · intro j hj hin
          rw [hmem] at hin
          rw [gset rs _ j hsr]
          by_cases hjs : j = sn
          · rw [if_pos hjs]; exact hp4
          · rw [if_neg hjs]
            rcases hin with h | h
            · rcases hdn j hj h with h' | h'
              · left; omega
              · exact .inr h'
            · exact absurd h hjs
      · rintro σ Hy ⟨z7, z8, cn, row, rs, rfl, Dy, Xy, tky, eOd, eRy, eWy, eOy, lrow, lrs, brow, brs, c0, hsumr, hpt, hz, hdn⟩
        rw [List.length_map, List.take_length] at hdn
        -- nothing is left
        have hsp := sum_point rs row rest (by omega) (by omega) (fun j hj => hpt j (by omega))
        have hsr : rest.sum + (ns.take i).sum = os.sum := by
          have h1 : (os.map fun _ => (0 : Int)).length = os.length := by simp
          have hcol : ∀ (tb : List (List Int)) (n : Nat), (∀ r ∈ tb, r.length = n) → ((List.range n).map fun j => (colAt tb j).sum).sum = (tb.map List.sum).sum := by
            intro tb n
            induction tb with
            | nil => intro _; simp [colAt, sum_zero_of]; exact sum_zero_of (fun j hj => by simp [List.getD_eq_getElem?_getD]; simp at hj; simp [hj])
            | cons r tb ih =>
              intro hr
              have hi := ih fun z hz => hr z (by simp [hz])
              have hrl := hr r (by simp)
              have e : ∀ j, (colAt (r :: tb) j).sum = r.getD j 0 + (colAt tb j).sum := fun j => by simp [colAt]
              have := sum_point r ((List.range n).map fun j => (colAt tb j).sum) ((List.range n).map fun j => (colAt (r :: tb) j).sum) (by simp [hrl]) (by simp) (fun j hj => by
                simp at hj
                simp only [List.getD_eq_getElem?_getD, List.getElem?_map, List.getElem?_range hj, Option.map_some, Option.getD_some, e])
              rw [← this, hi]; simp
          have := sum_point rest ((List.range ns.length).map fun j => (colAt tab j).sum) os (by omega) (by simp [hol]) (fun j hj => by
            have := ctab j (by omega)
            simp only [List.getD_eq_getElem?_getD, List.getElem?_map, List.getElem?_range (show j < ns.length by omega), Option.map_some, Option.getD_some] at this ⊢
            exact this)
          rw [hcol tab _ rtab, stab] at this
          exact this
        have hle : x + (ns.take i).sum ≤ ns.sum := by
          have h1 : ns.sum = (ns.take (i + 1)).sum + (ns.drop (i + 1)).sum := by rw [← List.sum_append, List.take_append_drop]
          rw [take_snoc hxi, List.sum_append] at h1
          have h2 := (le_sum (row := ns.drop (i + 1)) (fun z hz => (hnb z (List.mem_of_mem_drop hz)).1)).1
          simp at h1
          omega
        have hcn : cn = 0 := by
          refine Classical.byContradiction fun hc => ?_
          have hall : rs.sum = 0 := sum_zero_of fun j hj => by
            rcases hdn j (by omega) (all_in ho bo lo (by omega)) with h | h
            · exact absurd h hc
            · exact h
          omega
        subst hcn
        -- rows.append(tuple(row))
        refine ⟨.ref Ro, rfl, .inl ⟨rfl, _, SqL.of eOy⟩, .ref Rw, rfl, Rw, _, rfl, .inl ⟨SqL.of eWy, fun p np => ?_⟩⟩
        have eOp := upNew (o := .tup (row.map V.int)) np eOy
        have tkp : TupK (upd Hy p (.tup (row.map V.int))) (upd (upd Hy p (.tup (row.map V.int))) Ro (.lst (vs ++ [.ref p]))) := TupK.put eOp
        have fpH : Hy p = none := np
        refine ⟨Ro, vs, _, rfl, rfl, eOp, by rw [hvl]; exact small (by omega), _, _, _, _, tx + ns.length, rs, tab ++ [row], vs ++ [.ref p], rfl, (Dy.new np).put oRo.1 oRo.2.1 oRo.2.2, by omega, ExtPut (Xy.trans (Ext.of (sameNew np))) fRo, ?_, lrs, brs, upd_same, ?_, by simp [ltab], ?_, ?_, ?_, ?_⟩
        · rw [upd_ne nRR]; exact upNew np eRy
        · rw [List.map_append]
          exact DpAll.snoc ((((tkx5.trans tky).trans (TupK.new np)).trans tkp).dpAll _ _ (to_rows _) hvs) (dI_sq (tkp.sq (SqT.of upd_same)))
        · intro z hz'
          rcases List.mem_append.mp hz' with h | h
          · exact rtab z h
          · simp at h; subst h; exact lrow
        · intro z hz' u hu
          rcases List.mem_append.mp hz' with h | h
          · exact btab z h u hu
          · simp at h
            subst h
            have := (le_sum brow).2 u hu
            exact ⟨brow u hu, by omega⟩
        · rw [List.map_append, stab, take_snoc hxi]
          simp; omega
        · intro j hj
          rw [colAt_snoc]
          have h1 := hpt j hj
          have h2 := ctab j hj
          omega
    · rintro σ Hx ⟨y5, y6, y7, y8, tx, rest, tab, vs, rfl, Dx, htx, Xx, eR, lR, bR, eO, hvs, ltab, rtab, btab, stab, ctab⟩
      rw [List.length_map] at htx ltab stab
      rw [List.take_length] at stab
      have hsq : ∀ r ∈ tab, r.length = tab.length := fun r hr => by rw [rtab r hr, ltab]
      refine ⟨.ref Ro, rfl, Ro, _, rfl, .inl ⟨SqL.of eO, fun p np => q _ p tx tab (Dx.new np) (by omega) (Xx.trans (Ext.of (sameNew np))) (.tup (SqT.of upd_same) ((TupK.new np).dpAll _ _ (to_rows _) hvs)) ⟨ltab, rtab, btab, stab, ?_⟩⟩⟩
      -- the columns
      have hcol : ((List.range ns.length).map fun j => (colAt tab j).sum).sum = (tab.map List.sum).sum := by
        have hcol : ∀ (tb : List (List Int)) (n : Nat), (∀ r ∈ tb, r.length = n) → ((List.range n).map fun j => (colAt tb j).sum).sum = (tb.map List.sum).sum := by
          intro tb n
          induction tb with
          | nil => intro _; simp [colAt, sum_zero_of]; exact sum_zero_of (fun j hj => by simp [List.getD_eq_getElem?_getD]; simp at hj; simp [hj])
          | cons r tb ih =>
            intro hr
            have hi := ih fun z hz => hr z (by simp [hz])
            have hrl := hr r (by simp)
            have e : ∀ j, (colAt (r :: tb) j).sum = r.getD j 0 + (colAt tb j).sum := fun j => by simp [colAt]
            have := sum_point r ((List.range n).map fun j => (colAt tb j).sum) ((List.range n).map fun j => (colAt (r :: tb) j).sum) (by simp [hrl]) (by simp) (fun j hj => by
              simp at hj
              simp only [List.getD_eq_getElem?_getD, List.getElem?_map, List.getElem?_range hj, Option.map_some, Option.getD_some, e])
            rw [← this, hi]; simp
        exact hcol tab _ rtab
      have hs := sum_point rest ((List.range ns.length).map fun j => (colAt tab j).sum) os (by omega) (by simp [hol]) (fun j hj => by
        have := ctab j (by omega)
        simp only [List.getD_eq_getElem?_getD, List.getElem?_map, List.getElem?_range (show j < ns.length by omega), Option.map_some, Option.getD_some] at this ⊢
        exact this)
      have hr0 : rest.sum = 0 := by rw [hcol, stab] at hs; omega
      apply List.ext_getElem?
      intro j
      by_cases hj : j < ns.length
      · rw [colSum_at (by omega)]
        have h1 := ctab j hj
        have h2 := zero_of_sum bR hr0 j
        have h3 : os.getD j 0 = os[j]'(by omega) := by simp [List.getD_eq_getElem?_getD, show j < os.length by omega]
        rw [List.getElem?_eq_getElem (show j < os.length by omega)]
        congr 1
        omega
      · rw [List.getElem?_eq_none (by rw [colSum_len]; omega), List.getElem?_eq_none (by omega)]
/-! a change between two assignments -/
def Chg (one other : List (List Int)) (tabs : List (List (List Int))) : Prop := tabs.length = one.length ∧ ∀ (k : Nat) (n o : List Int) (tab : List (List Int)), one[k]? = some n → other[k]? = some o → tabs[k]? = some tab → Btw n o tab
structure Pair (one other : List (List Int)) : Prop where
  len : other.length = one.length
  ten : one.length ≤ 10
  at_ : ∀ (k : Nat) (n o : List Int), one[k]? = some n → other[k]? = some o → 1 ≤ n.length ∧ n.length ≤ 7 ∧ o.length = n.length ∧ (∀ x ∈ n, 0 ≤ x ∧ x ≤ 10 ^ 12) ∧ (∀ x ∈ o, 0 ≤ x ∧ x ≤ 10 ^ 12) ∧ o.sum = n.sum
def spCh (K : PySem.W.Frag) : Sp := fun vs H Q _ => ∃ (st c r a b : Addr) (t : Nat) (one other : List (List Int)), vs = [.ref st, .ref a, .ref b] ∧ DS H st c r t ∧ t + 600 ≤ 1000000 ∧ Dp K H (.ref a) (dAsg one) ∧ Dp K H (.ref b) (dAsg other) ∧ Pair one other ∧
  ∀ (H' : Hp) (p : Addr) (t' : Nat) (tabs : List (List (List Int))), DS H' st c r t' → t' ≤ t + 490 → Ext st r H H' → Dp K H' (.ref p) (dTabs tabs) → Chg one other tabs → Q (.ref p) H'
set_option maxHeartbeats 4000000 in
theorem ok_Ch {f fBt : Addr} {fd fdBt : FuncData} (F : Fun K "_law_change" "_law_change" sCh f fd)
    (FBt : Fun K "_law_table_between" "_law_table_between" sBt fBt fdBt) (bBt : Binds K fdBt ["_law_state", "_law_numbers", "_law_others"] []) (gBt : mg "_law_table_between" = some (.ref fBt)) (GBt : FnOk P w K mg base CX0 3 fBt fdBt ["_law_state", "_law_numbers", "_law_others"] (spBt K))
    (m_zip : mg "zip" = none) (m_tuple : mg "tuple" = none) :
    FnOk P w K mg base CX0 4 f fd ["_law_state", "_law_one", "_law_other"] (spCh K) := by
  refine F.ok scCh (fun vs H Q E h => ?_) (fun cdv A outer s H vs Q E hr h => ?_)
  · obtain ⟨st, c, r, a, b, t, one, other, rfl, _⟩ := h; rfl
  · obtain ⟨st, c, r, a, b, t, one, other, rfl, hd, ht, hA, hB, pr, q⟩ := h
    refine ⟨_, pss_one (ps_ret (pe_callTy call_tupQ (by rfl) m_tuple (by decide +kernel) (pa_cons (pe_lc (own := [("_law_numbers", 3), ("_law_others", 4)]) (g := gTup K 2 (gCons (gName 3) (gCons (gName 4) gNil))) (tt := tYes) (te := tCall (spBt K) [] E0 (tCons (tVar 0) (tCons (tVar 3) (tCons (tVar 4) tNil)))) rfl scCh.nd (RZ.pi_zipA (by rfl) m_zip (pa_cons (pv 1) (pa_cons (pv 2) pa_nil))) (blkOk_by (N := ["_law_state", "_law_one", "_law_other", "_law_numbers", "_law_others"]) (sc := defScope sCh) (by decide +kernel)) (fun _ _ _ _ _ => pg_tup rfl (pgs_cons (pg_name (i := 3) scCh.nd rfl (.inl rfl)) (pgs_cons (pg_name (i := 4) scCh.nd rfl (.inl rfl)) pgs_nil))) (fun _ _ _ _ _ => pts_nil) (fun _ _ _ _ _ => pe_call GBt (hr.mono (by omega)) (by rfl) gBt FBt.kp bBt .nil pass0 (pa_cons (pv 0) (pa_cons (pv 3) (pa_cons (pv 4) pa_nil))))) pa_nil))), ?_⟩
    obtain ⟨_, xs, e, hSa, hxs⟩ := asg_open hA
    cases e
    obtain ⟨_, ys, e, hSb, hys⟩ := asg_open hB
    cases e
    have lx := DpAll.len hxs
    have ly := DpAll.len hys
    rw [List.length_map] at lx ly
    have hln := pr.len
    have hten := pr.ten
    refine ⟨.ref a, rfl, .ref b, rfl, a, b, xs, ys, rfl, .inr ⟨hSa, hSb, fun D nD => lc_it (walk_zipT (K := K) (a := a) (b := b) (xs := xs) (ys := ys) rfl)
      (fun j H2 => ∃ (t2 : Nat) (vs : List V) (tabs : List (List (List Int))), DS H2 st c r t2 ∧ t2 ≤ t + 49 * j ∧ Ext st r H H2 ∧ H2 D = some (.lst vs) ∧ DpAll K H2 vs (tabs.map dAsg) ∧ tabs.length = j ∧
        ∀ (k : Nat) (n o : List Int) (tab : List (List Int)), one[k]? = some n → other[k]? = some o → tabs[k]? = some tab → Btw n o tab)
      ⟨t, [], [], hd.new nD, by omega, Ext.of (sameNew nD), upd_same, .nil, rfl, fun k n o tab _ _ h => by simp at h⟩ (fun j H2 _ h2 => by obtain ⟨_, _, _, _, _, x2, _⟩ := h2; exact ⟨(x2.tup hd).sq hSa, (x2.tup hd).sq hSb⟩) ?_ ?_⟩⟩
    · rintro j v H2 H3 hlt ⟨t2, vs, tabs, d2, ht2, x2, eD, hvs, ltab, hbt⟩ ⟨T, x, y, rfl, nT, rfl, hx, hy⟩
      have hx' : xs[j]? = some x := hx
      have hy' : ys[j]? = some y := hy
      obtain ⟨d, hdx, hxd⟩ := DpAll.at hxs hx'
      rw [List.getElem?_map] at hdx
      obtain ⟨n, hni, rfl⟩ := Option.map_eq_some_iff.mp hdx
      obtain ⟨d, hdy, hyd⟩ := DpAll.at hys hy'
      rw [List.getElem?_map] at hdy
      obtain ⟨o, hoi, rfl⟩ := Option.map_eq_some_iff.mp hdy
      obtain ⟨p1, p2, p3, p4, p5, p6⟩ := pr.at_ j n o hni hoi
      have hjl : j < one.length := (List.getElem?_eq_some_iff.mp hni).1
      have s3 := sameNew (o := .tup [x, y]) nT
      have tk3 := (x2.tup hd).trans (TupK.of s3)
      have oD := hd.off nD
      obtain ⟨xa, rfl, _⟩ := dI_ref hxd
      obtain ⟨ya, rfl, _⟩ := dI_ref hyd
      have hvl : vs.length = j := by rw [DpAll.len hvs, List.length_map, ltab]
      refine ⟨T, _, rfl, SqT.of upd_same, rfl, _, _, rfl, _, _, rfl, rfl, rfl, .ref st, rfl, .ref xa, rfl, .ref ya, rfl, st, c, r, xa, ya, t2, n, o, rfl, d2.same s3, by omega, tk3.dp _ _ (to_dI n) hxd, tk3.dp _ _ (to_dI o) hyd, p1, p2, p3, p4, p5, p6, fun H4 p t4 tab D4 ht4 X4 hp hb => ?_⟩
      have eD4 := X4 _ _ (upNew nT eD) oD.1 oD.2.2
      have tk4 := (TupK.of s3).trans (X4.tup (d2.same s3))
      have tk5 : TupK H4 (upd H4 D (.lst (vs ++ [.ref p]))) := TupK.put eD4
      refine ⟨vs, eD4, by rw [hvl]; exact small (by omega), t4, vs ++ [.ref p], tabs ++ [tab], D4.put oD.1 oD.2.1 oD.2.2, by omega, ExtPut ((x2.trans (Ext.of s3)).trans X4) nD, upd_same, ?_, by simp [ltab], ?_⟩
      · rw [List.map_append]
        exact DpAll.snoc ((tk4.trans tk5).dpAll _ _ (to_tabs _) hvs) (tk5.dp _ _ (to_dAsg _) hp)
      · intro k n' o' tab' h1 h2 h3
        by_cases hk : k < tabs.length
        · rw [List.getElem?_append_left hk] at h3
          exact hbt k n' o' tab' h1 h2 h3
        · rw [List.getElem?_append_right (by omega)] at h3
          have e0 : k - tabs.length = 0 := by have := (List.getElem?_eq_some_iff.mp h3).1; simp at this; omega
          rw [e0] at h3
          simp at h3
          subst h3
          obtain rfl : k = j := by omega
          rw [hni] at h1; rw [hoi] at h2
          cases h1; cases h2
          exact hb
    · rintro H2 ⟨t2, vs, tabs, d2, ht2, x2, eD, hvs, ltab, hbt⟩
      have hmin : min xs.length ys.length = one.length := by omega
      rw [hmin] at ht2 ltab
      exact ⟨D, _, rfl, .inl ⟨SqL.of eD, fun p np => q _ _ t2 tabs (d2.new np) (by omega) (x2.trans (Ext.of (sameNew np))) (.tup (SqT.of upd_same) ((TupK.new np).dpAll _ _ (to_tabs _) hvs)) ⟨ltab, hbt⟩⟩⟩
end
end Pv

namespace Pv
open PySem PySem.Spec PyProof.Rows L2
abbrev sVo : Stmt := topS 18
theorem scVo : FnScope ["start", "end"] ["start", "end"] (defScope sVo) := ⟨rfl, rfl, rfl, by decide +kernel, rfl, by decide +kernel, by decide +kernel⟩
abbrev sSR : Stmt := topS 21
theorem scSR : FnScope ["share", "option", "end", "number"] ["share", "option"] (defScope sSR) := ⟨rfl, rfl, rfl, by decide +kernel, rfl, by decide +kernel, by decide +kernel⟩
abbrev sSC : Stmt := topS 20
theorem scSC : FnScope ["assignment", "share", "option"] ["assignment"] (defScope sSC) := ⟨rfl, rfl, rfl, by decide +kernel, rfl, by decide +kernel, by decide +kernel⟩
abbrev sCR : Stmt := topS 17
theorem scCR : FnScope ["instance", "assignment", "change"] ["instance", "assignment", "change"] (defScope sCR) := ⟨rfl, rfl, rfl, by decide +kernel, rfl, by decide +kernel, by decide +kernel⟩
abbrev sCS : Stmt := topS 19
theorem scCS : FnScope ["change", "table", "start", "row", "end", "number"] ["change"] (defScope sCS) := ⟨rfl, rfl, rfl, by decide +kernel, rfl, by decide +kernel, by decide +kernel⟩
theorem iteT' {c : Bool} {A B : Prop} (hc : c = true) (h : A) : if c = true then A else B := by rw [if_pos hc]; exact h
theorem iteF' {c : Bool} {A B : Prop} (hc : c = false) (h : B) : if c = true then A else B := by rw [if_neg (by rw [hc]; decide)]; exact h
theorem ps_never {X : Cx} {st : Stmt} : PS X st (fun _ _ _ => False) := ⟨fun _ _ _ _ _ _ h => h.elim⟩
def trp (t : List (List Int)) : List (List Int) := (List.range t.length).map fun j => colAt t j
theorem trp_at {t : List (List Int)} {i : Nat} (h : i < t.length) : (trp t)[i]? = some (colAt t i) := by simp [trp, h]
theorem trp_len (t : List (List Int)) : (trp t).length = t.length := by simp [trp]
def voteI (s e : Int) : Int := if e < s then 1 else if e > s then -1 else 0
theorem vote_small (s e : Int) : -(2 ^ 64) < voteI s e ∧ voteI s e < 2 ^ 64 := by
  unfold voteI
  split
  · decide
  · split <;> decide
def stayRow (ns : List Int) (o : Int) : List Int := (List.range ns.length).map fun (j : Nat) => if (j : Int) = o then ns.getD j 0 else 0
def stayTab (ns : List Int) : List (List Int) := (List.range ns.length).map fun (i : Nat) => stayRow ns (i : Int)
theorem stayRow_at {ns : List Int} {o : Int} {i : Nat} {n : Int} (h : ns[i]? = some n) : (stayRow ns o)[i]? = some (if (i : Int) = o then n else 0) := by
  have := (List.getElem?_eq_some_iff.mp h).1
  have e : ns[i] = n := (List.getElem?_eq_some_iff.mp h).2
  simp [stayRow, this, e]
theorem stayTab_at {ns : List Int} {i : Nat} (h : i < ns.length) : (stayTab ns)[i]? = some (stayRow ns (i : Int)) := by simp [stayTab, h]
def rowVotes (i : Nat) (row : List Int) : List Int := (List.range row.length).map fun (j : Nat) => row.getD j 0 * voteI (i : Int) (j : Int)
def tabVotes (t : List (List Int)) : List (List Int) := (List.range t.length).map fun i => rowVotes i (t.getD i [])
def votesOf (tabs : List (List (List Int))) : List Int := (tabs.map fun t => (tabVotes t).flatten).flatten
theorem rowVotes_at {i j : Nat} {row : List Int} {n : Int} (h : row[j]? = some n) : (rowVotes i row)[j]? = some (n * voteI (i : Int) (j : Int)) := by
  have := (List.getElem?_eq_some_iff.mp h).1
  have e : row[j] = n := (List.getElem?_eq_some_iff.mp h).2
  simp [rowVotes, this, e]
theorem tabVotes_at {t : List (List Int)} {i : Nat} {row : List Int} (h : t[i]? = some row) : (tabVotes t)[i]? = some (rowVotes i row) := by
  have := (List.getElem?_eq_some_iff.mp h).1
  have e : t[i] = row := (List.getElem?_eq_some_iff.mp h).2
  simp [tabVotes, this, e]
theorem rowVotes_len (i : Nat) (row : List Int) : (rowVotes i row).length = row.length := by simp [rowVotes]
theorem tabVotes_len (t : List (List Int)) : (tabVotes t).length = t.length := by simp [tabVotes]
section
variable {P : Program} {w : World} {K : PySem.W.Frag} {mg : Str → Option Value} {base : Heap}
def spVo : Sp := fun vs H Q _ => ∃ (s e : Int), vs = [.int s, .int e] ∧ Q (.int (voteI s e)) H
theorem ok_Vo {f : Addr} {fd : FuncData} (F : Fun K "vote" "vote" sVo f fd)
     :
    FnOk P w K mg base CX0 1 f fd ["start", "end"] spVo := by
  refine F.ok scVo (fun vs H Q E h => ?_) (fun cdv A outer s H vs Q E hr h => ?_)
  · obtain ⟨s, e, rfl, _⟩ := h; rfl
  · obtain ⟨s, e, rfl, q⟩ := h
    refine ⟨_, pss_cons (ps_if (pt_cmpR op_lt (pv 1) (pv 0) (nomark _))
        (pss_one (ps_ret (pe_int))) pss_nil)
      (pss_one (ps_ret (pe_ifExp (pt_cmpR op_gt (pv 1) (pv 0) (nomark _)) (pe_un un_neg (pe_int)) (pe_int)))), ?_⟩
    refine ⟨.int e, rfl, .int s, rfl, _, _, rfl, rfl, ?_⟩
    unfold voteI at q
    by_cases h1 : e < s
    · rw [if_pos h1] at q
      refine ⟨_, rfl, iteT' (decide_eq_true h1) q⟩
    · rw [if_neg h1] at q
      refine ⟨_, rfl, iteF' (decide_eq_false h1) ⟨.int e, rfl, .int s, rfl, _, _, rfl, rfl, ?_⟩⟩
      by_cases h2 : e > s
      · rw [if_pos h2] at q
        exact ⟨_, rfl, iteT' (decide_eq_true h2) ⟨1, rfl, q⟩⟩
      · rw [if_neg h2] at q
        exact ⟨_, rfl, iteF' (decide_eq_false h2) q⟩
def spStR (K : PySem.W.Frag) : Sp := fun vs H Q _ => ∃ (a : Addr) (ns : List Int) (o : Int), vs = [.ref a, .int o] ∧ Dp K H (.ref a) (dI ns) ∧ ns.length ≤ 900 ∧ ∀ H' p, Same H H' → Dp K H' (.ref p) (dI (stayRow ns o)) → Q (.ref p) H'
set_option maxHeartbeats 2000000 in
theorem ok_SR {f : Addr} {fd : FuncData} (F : Fun K "stay_row" "stay_row" sSR f fd)
    (m_enumerate : mg "enumerate" = none) (m_tuple : mg "tuple" = none) :
    FnOk P w K mg base CX0 1 f fd ["share", "option"] (spStR K) := by
  refine F.ok scSR (fun vs H Q E h => ?_) (fun cdv A outer s H vs Q E hr h => ?_)
  · obtain ⟨a, ns, o, rfl, _⟩ := h; rfl
  · obtain ⟨a, ns, o, rfl, hA, hn, q⟩ := h
    refine ⟨_, pss_one (ps_ret (pe_callTy call_tupQ (by rfl) m_tuple (by decide +kernel) (pa_cons (pe_lc (own := [("end", 2), ("number", 3)]) (g := gTup K 2 (gCons (gName 2) (gCons (gName 3) gNil))) (tt := tYes) (te := tIf (tTest (tOp rEq (tVar 2) (tVar 1))) (tVar 3) (tC (.int 0))) rfl scSR.nd (pi_enumT (by rfl) m_enumerate (pa_cons (pv 0) pa_nil)) (blkOk_by (N := ["share", "option", "end", "number"]) (sc := defScope sSR) (by decide +kernel)) (fun _ _ _ _ _ => pg_tup rfl (pgs_cons (pg_name (i := 2) scSR.nd rfl (.inl rfl)) (pgs_cons (pg_name (i := 3) scSR.nd rfl (.inl rfl)) pgs_nil))) (fun _ _ _ _ _ => pts_nil) (fun _ _ _ _ _ => pe_ifExp (pt_cmpR op_eq (pv 2) (pv 1) (nomark _)) (pv 3) (pe_int))) pa_nil))), ?_⟩
    have hS := sq_dI hA
    have lr : (stayRow ns o).length = ns.length := by simp [stayRow]
    refine ⟨.ref a, rfl, a, _, rfl, hS, fun D nD => lc_it (walk_enumT (K := K) (a := a) (xs := ns.map V.int))
      (fun i H2 => Same H H2 ∧ H2 D = some (.lst (((stayRow ns o).take i).map V.int))) ⟨sameNew nD, upd_same⟩ (fun i H2 _ h2 => (TupK.of h2.1).sq hS) ?_ ?_⟩
    · rintro i v H2 H3 hlt ⟨s2, e2⟩ ⟨T, x, y, rfl, nT, rfl, hx, hy⟩
      have hx' : some (V.int (i : Nat)) = some x := hx
      cases hx'
      have hy' : (ns.map V.int)[i]? = some y := hy
      rw [List.getElem?_map] at hy'
      obtain ⟨n, hni, rfl⟩ := Option.map_eq_some_iff.mp hy'
      refine ⟨T, _, rfl, SqT.of upd_same, rfl, _, _, rfl, _, _, rfl, rfl, rfl, .int (i : Nat), rfl, .int o, rfl, rfl, ?_⟩
      have fin : ∀ z : Int, (stayRow ns o)[i]? = some z → ∃ acc, (upd H2 T (.tup [.int (i : Nat), .int n])) D = some (.lst acc) ∧ acc.length < sizeLine ∧ Same H (upd (upd H2 T (.tup [.int (i : Nat), .int n])) D (.lst (acc ++ [.int z]))) ∧ (upd (upd H2 T (.tup [.int (i : Nat), .int n])) D (.lst (acc ++ [.int z]))) D = some (.lst (((stayRow ns o).take (i + 1)).map V.int)) := by
        intro z hz
        refine ⟨_, upNew nT e2, ?_, samePut (s2.trans (sameNew nT)) nD, ?_⟩
        · rw [List.length_map, List.length_take]; exact small (by omega)
        · rw [upd_same, take_snoc hz, List.map_append]; rfl
      have hz := stayRow_at (o := o) hni
      by_cases h1 : (i : Int) = o
      · rw [if_pos h1] at hz
        exact ⟨_, rfl, iteT' (decide_eq_true (by rw [h1])) ⟨_, rfl, fin _ hz⟩⟩
      · rw [if_neg h1] at hz
        exact ⟨_, rfl, iteF' (decide_eq_false (fun z => h1 (V.int.inj z))) (fin _ hz)⟩
    · rintro H2 ⟨s2, e2⟩
      rw [List.length_map, List.take_of_length_le (by omega)] at e2
      exact ⟨D, _, rfl, .inl ⟨SqL.of e2, fun p np => q _ _ (s2.trans (sameNew np)) (dI_sq (SqT.of upd_same))⟩⟩
def spStC (K : PySem.W.Frag) : Sp := fun vs H Q _ => ∃ (a : Addr) (rows : List (List Int)), vs = [.ref a] ∧ Dp K H (.ref a) (dAsg rows) ∧ rows.length ≤ 900 ∧ (∀ r ∈ rows, r.length ≤ 900) ∧ ∀ H' p, Same H H' → Dp K H' (.ref p) (dTabs (rows.map stayTab)) → Q (.ref p) H'
set_option maxHeartbeats 2000000 in
theorem ok_SC {f fSR : Addr} {fd fdSR : FuncData} (F : Fun K "stay_change" "stay_change" sSC f fd)
    (FSR : Fun K "stay_row" "stay_row" sSR fSR fdSR) (bSR : Binds K fdSR ["share", "option"] []) (gSR : mg "stay_row" = some (.ref fSR)) (GSR : FnOk P w K mg base CX0 1 fSR fdSR ["share", "option"] (spStR K))
    (m_len : mg "len" = none) (m_range : mg "range" = none) (m_tuple : mg "tuple" = none) :
    FnOk P w K mg base CX0 2 f fd ["assignment"] (spStC K) := by
  refine F.ok scSC (fun vs H Q E h => ?_) (fun cdv A outer s H vs Q E hr h => ?_)
  · obtain ⟨a, rows, rfl, _⟩ := h; rfl
  · obtain ⟨a, rows, rfl, hA, hn, hrn, q⟩ := h
    refine ⟨_, pss_one (ps_ret (pe_callTy call_tupQ (by rfl) m_tuple (by decide +kernel) (pa_cons (pe_lc (own := [("share", 1)]) (g := gName 1) (tt := tYes) (te := tCB (rTupQ K) (tCons (tLc (iRng1 (tCons (tCB (rLenQ K) (tCons (tVar 1) tNil)) tNil)) (gName 2) (tYes) (tCall (spStR K) [] E0 (tCons (tVar 1) (tCons (tVar 2) tNil))) [2]) tNil)) rfl scSC.nd (pi_tup (pv 0)) (blkOk_by (N := ["assignment", "share", "option"]) (sc := defScope sSC) (by decide +kernel)) (fun _ _ _ _ _ => pg_name (i := 1) scSC.nd rfl (.inr rfl)) (fun _ _ _ _ _ => pts_nil) (fun _ _ _ _ _ => pe_callTy call_tupQ (by rfl) m_tuple (by decide +kernel) (pa_cons (pe_lc (own := [("option", 2)]) (g := gName 2) (tt := tYes) (te := tCall (spStR K) [] E0 (tCons (tVar 1) (tCons (tVar 2) tNil))) rfl scSC.nd (pi_range1 (by rfl) m_range (pa_cons (pe_callB call_lenQ (by rfl) m_len PySem.boot_len (pa_cons (pv 1) pa_nil)) pa_nil)) (blkOk_by (N := ["assignment", "share", "option"]) (sc := { kind := .function, names := [(".0", .local), ("share", .cell), ("tuple", .globalImplicit), ("range", .globalImplicit), ("len", .globalImplicit)], isGenerator := false, isCoroutine := false }) (by decide +kernel)) (fun _ _ _ _ _ => pg_name (i := 2) scSC.nd rfl (.inl rfl)) (fun _ _ _ _ _ => pts_nil) (fun _ _ _ _ _ => pe_call GSR (hr.mono (by omega)) (by rfl) gSR FSR.kp bSR .nil pass0 (pa_cons (pv 1) (pa_cons (pv 2) pa_nil)))) pa_nil))) pa_nil))), ?_⟩
    obtain ⟨_, ys, e, ha, hrows⟩ := asg_open hA
    cases e
    refine ⟨.ref a, rfl, a, rfl, ⟨_, ha⟩, fun D nD => lc_tup (xs := ys)
      (fun j H2 => Same H H2 ∧ ∃ vs, H2 D = some (.lst vs) ∧ vs.length = j ∧ DpAll K H2 vs (((rows.take j).map stayTab).map dAsg)) ⟨sameNew nD, [], upd_same, rfl, .nil⟩ (fun j H2 _ h2 => (TupK.of h2.1).sq ha) ?_ ?_⟩
    · rintro j x H2 hxj ⟨s2, vs, e2, hvl, hvs⟩
      obtain ⟨d, hd, hxd⟩ := DpAll.at hrows hxj
      rw [List.getElem?_map] at hd
      obtain ⟨ns, hns, rfl⟩ := Option.map_eq_some_iff.mp hd
      obtain ⟨rA, rfl, hR⟩ := dI_ref hxd
      have hjl : j < rows.length := (List.getElem?_eq_some_iff.mp hns).1
      have hnl := hrn ns (List.mem_of_getElem? hns)
      have lt : (stayTab ns).length = ns.length := by simp [stayTab]
      refine ⟨rfl, .ref rA, rfl, rA, _, rfl, .inr ((TupK.of s2).sq hR), _, rfl, ?_, ?_, fun D2 nD2 => lc_it (walk_range (lo := 0) (n := ((ns.map V.int).length : Int).toNat))
        (fun i H4 => Same H2 H4 ∧ ∃ ws, H4 D2 = some (.lst ws) ∧ ws.length = i ∧ DpAll K H4 ws (((stayTab ns).take i).map dI)) ⟨sameNew nD2, [], upd_same, rfl, .nil⟩ (fun _ _ _ _ => trivial) ?_ ?_⟩
      · omega
      · rw [List.length_map]; omega
      · rintro i v H4 H5 hlt ⟨s4, ws, e4, hwl, hws⟩ ⟨rfl, rfl⟩
        rw [List.length_map, Int.toNat_natCast] at hlt
        refine ⟨rfl, .ref rA, rfl, _, rfl, rA, ns, _, rfl, dI_sq ((TupK.of (s2.trans s4)).sq hR), hnl, fun H6 p s6 hp => ?_⟩
        have e6 := s6 _ _ e4
        have tk : TupK H6 (upd H6 D2 (.lst (ws ++ [.ref p]))) := TupK.put e6
        refine ⟨ws, e6, by rw [hwl]; exact small (by omega), samePut (s4.trans s6) nD2, _, upd_same, by simp [hwl], ?_⟩
        have hp' : Dp K H6 (.ref p) (dI (stayRow ns (i : Int))) := by simpa using hp
        rw [take_snoc (stayTab_at hlt), List.map_append]
        exact DpAll.snoc (((TupK.of s6).trans tk).dpAll _ _ (to_rows _) hws) (tk.dp _ _ (to_dI _) hp')
      · rintro H4 ⟨s4, ws, e4, hwl, hws⟩
        rw [List.length_map, Int.toNat_natCast, List.take_of_length_le (by omega)] at hws
        refine ⟨D2, _, rfl, .inl ⟨SqL.of e4, fun p np => ?_⟩⟩
        have s5 := s4.trans (sameNew (o := .tup ws) np)
        have e5 := s5 _ _ e2
        have tk5 : TupK (upd H4 p (.tup ws)) (upd (upd H4 p (.tup ws)) D (.lst (vs ++ [.ref p]))) := TupK.put e5
        refine ⟨vs, e5, by rw [hvl]; exact small (by omega), samePut (s2.trans s5) nD, _, upd_same, by simp [hvl], ?_⟩
        have et : ((rows.take (j + 1)).map stayTab).map dAsg = ((rows.take j).map stayTab).map dAsg ++ [dAsg (stayTab ns)] := by rw [take_snoc hns]; simp
        rw [et]
        exact DpAll.snoc (((TupK.of s5).trans tk5).dpAll _ _ (to_tabs _) hvs) (tk5.dp _ _ (to_dAsg _) (.tup (SqT.of upd_same) ((TupK.new np).dpAll _ _ (to_rows _) hws)))
    · rintro H2 ⟨s2, vs, e2, hvl, hvs⟩
      rw [DpAll.len hrows, List.length_map, List.take_length] at hvs
      exact ⟨D, _, rfl, .inl ⟨SqL.of e2, fun p np => q _ _ (s2.trans (sameNew np)) (.tup (SqT.of upd_same) ((TupK.new np).dpAll _ _ (to_tabs _) hvs))⟩⟩
def spChR (K : PySem.W.Frag) : Sp := fun vs H Q _ => ∃ (i a p : Addr) (cs : List Int) (gs : List Gp) (asg : List (List Int)) (tabs : List (List (List Int))), vs = [.ref i, .ref a, .ref p] ∧ Dp K H (.ref i) (dInst cs gs) ∧ Dp K H (.ref a) (dAsg asg) ∧ Dp K H (.ref p) (dTabs tabs) ∧
  (cs.length ≤ 900 ∧ gs.length ≤ 900 ∧ InR cs.length gs ∧ (∀ g ∈ gs, g.1.length ≤ 900) ∧ asg.length ≤ 900 ∧ ∀ r ∈ asg, 1 ≤ r.length ∧ r.length ≤ 7) ∧ changeD cs gs asg (dTabs tabs) = true ∧ (∀ t ∈ tabs, Sqr t) ∧ tabs.length ≤ 900 ∧ ∀ H' p', Same H H' → Dp K H' (.ref p') (dAsg (tabs.map colSum)) → Q (.ref p') H'
theorem ok_CR {f fIC fTR : Addr} {fd fdIC fdTR : FuncData} (F : Fun K "change_result" "change_result" sCR f fd)
    (FIC : Fun K "is_change" "is_change" sIC fIC fdIC) (bIC : Binds K fdIC ["instance", "assignment", "value"] []) (gIC : mg "is_change" = some (.ref fIC)) (GIC : FnOk P w K mg base CX0 5 fIC fdIC ["instance", "assignment", "value"] (spIsC K))
    (FTR : Fun K "tables_result" "tables_result" sTR fTR fdTR) (bTR : Binds K fdTR ["tables"] []) (gTR : mg "tables_result" = some (.ref fTR)) (GTR : FnOk P w K mg base CX0 1 fTR fdTR ["tables"] (spTabRes K))
     :
    FnOk P w K mg base CX0 6 f fd ["instance", "assignment", "change"] (spChR K) := by
  refine F.ok scCR (fun vs H Q E h => ?_) (fun cdv A outer s H vs Q E hr h => ?_)
  · obtain ⟨i, a, p, cs, gs, asg, tabs, rfl, _⟩ := h; rfl
  · obtain ⟨i, a, p, cs, gs, asg, tabs, rfl, hI, hA, hT, ⟨l1, l2, l3, l4, l5, l6⟩, hc, hsq, hn, q⟩ := h
    refine ⟨_, pss_cons (ps_if (pt_not (pt_val (pe_call GIC (hr.mono (by omega)) (by rfl) gIC FIC.kp bIC .nil pass0 (pa_cons (pv 0) (pa_cons (pv 1) (pa_cons (pv 2) pa_nil))))))
        (pss_one (ps_never)) pss_nil)
      (pss_one (ps_ret (pe_call GTR (hr.mono (by omega)) (by rfl) gTR FTR.kp bTR .nil pass0 (pa_cons (pv 2) pa_nil)))), ?_⟩
    refine ⟨.ref i, rfl, .ref a, rfl, .ref p, rfl, i, i, i, a, .ref p, cs, gs, asg, dTabs tabs, rfl, hI, hA, Dq.of_dp (to_dTabs _) hT, l1, l2, l3, l4, l5, l6, fun H2 s2 => ?_⟩
    rw [hc]
    exact ⟨_, rfl, iteF ⟨.ref p, rfl, p, tabs, rfl, (TupK.of s2).dp _ _ (to_dTabs _) hT, hn, hsq, fun H3 p' s3 h3 => q _ _ (s2.trans s3) h3⟩⟩
end
end Pv

namespace Pv
open PySem PySem.Spec PyProof.Rows L2
section
variable {P : Program} {w : World} {K : PySem.W.Frag} {mg : Str → Option Value} {base : Heap}
def spSur (K : PySem.W.Frag) : Sp := fun vs H Q _ => ∃ (a : Addr) (tabs : List (List (List Int))), vs = [.ref a] ∧ Dp K H (.ref a) (dTabs tabs) ∧ tabs.length ≤ 20 ∧ (∀ t ∈ tabs, Sqr t) ∧ ∀ H', Same H H' → Q (.int (votesOf tabs).sum) H'
theorem flat_le {ls : List (List Int)} {b : Nat} (h : ∀ l ∈ ls, l.length ≤ b) : ls.flatten.length ≤ b * ls.length := by
  induction ls with
  | nil => simp
  | cons l ls ih =>
    have h1 := h l (by simp)
    have h2 := ih (fun m hm => h m (by simp [hm]))
    rw [List.flatten_cons, List.length_append, List.length_cons, Nat.mul_succ]
    omega
theorem tabV_le {t : List (List Int)} (h : Sqr t) : ((tabVotes t).flatten).length ≤ 49 := by
  have := flat_le (ls := tabVotes t) (b := 7) (by
    intro l hl
    obtain ⟨i, hi, rfl⟩ := List.mem_map.mp hl
    rw [rowVotes_len]
    have hi' := List.mem_range.mp hi
    rw [List.getD_eq_getElem?_getD, List.getElem?_eq_getElem hi']
    have := h.2.2 t[i] (List.getElem_mem hi')
    have := h.2.1
    simp only [Option.getD_some]
    omega)
  rw [tabVotes_len] at this
  have := h.2.1
  omega
set_option maxHeartbeats 2000000 in
theorem ok_CS {f fVo : Addr} {fd fdVo : FuncData} (F : Fun K "change_surplus" "change_surplus" sCS f fd)
    (FVo : Fun K "vote" "vote" sVo fVo fdVo) (bVo : Binds K fdVo ["start", "end"] []) (gVo : mg "vote" = some (.ref fVo)) (GVo : FnOk P w K mg base CX0 1 fVo fdVo ["start", "end"] spVo)
    (m_enumerate : mg "enumerate" = none) (m_sum : mg "sum" = none) :
    FnOk P w K mg base CX0 2 f fd ["change"] (spSur K) := by
  refine F.ok scCS (fun vs H Q E h => ?_) (fun cdv A outer s H vs Q E hr h => ?_)
  · obtain ⟨a, tabs, rfl, _⟩ := h; rfl
  · obtain ⟨a, tabs, rfl, hD, hn, hsq, q⟩ := h
    refine ⟨_, pss_one (ps_ret (pe_callB (cr_sum rfl) (by rfl) m_sum (by decide +kernel) (pa_cons (pe_lc3 (own := [("table", 1), ("start", 2), ("row", 3), ("end", 4), ("number", 5)]) (vs1 := [2, 3, 4, 5]) (vs2 := [4, 5]) (g := gName 1) (tt := tYes) (wi1 := iEnumT K (tCons (tVar 1) tNil)) (g1 := gTup K 2 (gCons (gName 2) (gCons (gName 3) gNil))) (tt1 := tYes) (wi2 := iEnumT K (tCons (tVar 3) tNil)) (g2 := gTup K 2 (gCons (gName 4) (gCons (gName 5) gNil))) (tt2 := tYes) (te := tOp (rI CMul fun i j => .int (i * j)) (tVar 5) (tCall spVo [] E0 (tCons (tVar 2) (tCons (tVar 4) tNil)))) rfl scCS.nd (pi_tup (pv 0)) (blkOk_by (N := ["change", "table", "start", "row", "end", "number"]) (sc := defScope sCS) (by decide +kernel)) (by decide) (by decide) (fun _ _ _ _ _ => pg_name (i := 1) scCS.nd rfl (.inl rfl)) (fun _ _ _ _ _ => pts_nil) (fun _ _ _ _ _ => pi_enumT (by rfl) m_enumerate (pa_cons (pv 1) pa_nil)) (fun _ _ _ _ _ => pg_tup rfl (pgs_cons (pg_name (i := 2) scCS.nd rfl (.inl rfl)) (pgs_cons (pg_name (i := 3) scCS.nd rfl (.inl rfl)) pgs_nil))) (fun _ _ _ _ _ => pts_nil) (fun _ _ _ _ _ => pi_enumT (by rfl) m_enumerate (pa_cons (pv 3) pa_nil)) (fun _ _ _ _ _ => pg_tup rfl (pgs_cons (pg_name (i := 4) scCS.nd rfl (.inl rfl)) (pgs_cons (pg_name (i := 5) scCS.nd rfl (.inl rfl)) pgs_nil))) (fun _ _ _ _ _ => pts_nil) (fun _ _ _ _ _ => pe_op op_mul (pv 5) (pe_call GVo (hr.mono (by omega)) (by rfl) gVo FVo.kp bVo .nil pass0 (pa_cons (pv 2) (pa_cons (pv 4) pa_nil))))) pa_nil))), ?_⟩
    cases hD with
    | @tup _ xs _ ha hx =>
    have lx := DpAll.len hx
    rw [List.length_map] at lx
    have cap : ∀ (j : Nat) (m : Nat) (t : List (List Int)) (i : Nat) (row : List Int), tabs[j]? = some t → t[i]? = some row → m ≤ row.length → (votesOf (tabs.take j) ++ (((tabVotes t).take i).flatten ++ (rowVotes i row).take m)).length < sizeLine := by
      intro j m t i row ht hi hm
      have hst := hsq t (List.mem_of_getElem? ht)
      have h1 := flat_le (ls := (tabs.take j).map fun t => (tabVotes t).flatten) (b := 49) (by
        intro l hl
        obtain ⟨u, hu, rfl⟩ := List.mem_map.mp hl
        exact tabV_le (hsq u (List.mem_of_mem_take hu)))
      have h2 := flat_le (ls := (tabVotes t).take i) (b := 7) (by
        intro l hl
        obtain ⟨k, hk, rfl⟩ := List.mem_map.mp (List.mem_of_mem_take hl)
        rw [rowVotes_len]
        have hk' := List.mem_range.mp hk
        rw [List.getD_eq_getElem?_getD, List.getElem?_eq_getElem hk']
        have := hst.2.2 t[k] (List.getElem_mem hk')
        have := hst.2.1
        simp only [Option.getD_some]
        omega)
      have h3 := hst.2.2 row (List.mem_of_getElem? hi)
      have h4 := hst.2.1
      rw [List.length_map, List.length_take] at h1
      rw [List.length_take, tabVotes_len] at h2
      unfold votesOf
      rw [List.length_append, List.length_append, List.length_take, rowVotes_len]
      exact small (by omega)
    refine ⟨.ref a, rfl, a, rfl, ⟨_, ha⟩, fun D nD => turns_it (walk_tup (K := K) (a := a) (xs := xs))
      (fun j H2 => Same H H2 ∧ H2 D = some (.lst ((votesOf (tabs.take j)).map V.int))) ⟨sameNew nD, upd_same⟩ (fun j H2 _ h2 => (TupK.of h2.1).sq ha) ?_ ?_⟩
    · rintro j x H2 H2' hlt ⟨s2, e2⟩ ⟨rfl, hxj⟩
      obtain ⟨d, hd, hxd⟩ := DpAll.at hx hxj
      rw [List.getElem?_map] at hd
      obtain ⟨t, ht, rfl⟩ := Option.map_eq_some_iff.mp hd
      obtain ⟨h1, h7, hrow⟩ := hsq t (List.mem_of_getElem? ht)
      obtain ⟨ta, ras, rfl, hT, hrl, hrs⟩ := tab_open hxd
      refine ⟨rfl, .ref ta, rfl, ta, _, rfl, (TupK.of s2).sq hT, ?_⟩
      show tTurns _ _ _ _ _ [some (.ref a), some (.ref ta), none, none, none, none] _ _
      refine turns_it (walk_enumT (K := K) (a := ta) (xs := ras.map V.ref))
        (fun i H4 => Same H H4 ∧ H4 D = some (.lst ((votesOf (tabs.take j) ++ ((tabVotes t).take i).flatten).map V.int))) ⟨s2, ?_⟩ (fun i H4 _ h4 => (TupK.of h4.1).sq hT) ?_ ?_
      · rw [e2]; simp
      · rintro i v H4 H5 hlt4 ⟨s4, e4⟩ ⟨T, x4, y4, rfl, nT, rfl, hx4, hy4⟩
        have hx' : some (V.int (i : Nat)) = some x4 := hx4
        cases hx'
        have hy' : (ras.map V.ref)[i]? = some y4 := hy4
        rw [List.getElem?_map] at hy'
        obtain ⟨ra, hra, rfl⟩ := Option.map_eq_some_iff.mp hy'
        rw [List.length_map] at hlt4
        have hil : i < t.length := by omega
        have hti : t[i]? = some t[i] := List.getElem?_eq_getElem hil
        have hR := hrs i ra t[i] hra hti
        have s5 : Same H (upd H4 T (.tup [.int (i : Nat), .ref ra])) := s4.trans (sameNew nT)
        have e5 : (upd H4 T (.tup [.int (i : Nat), .ref ra])) D = _ := upNew nT e4
        refine ⟨T, _, rfl, SqT.of upd_same, rfl, _, _, rfl, _, _, rfl, rfl, rfl, .ref ra, rfl, ra, _, rfl, (TupK.of s5).sq hR, ?_⟩
        show tTurns _ _ _ _ _ [some (.ref a), some (.ref ta), some (.int (i : Nat)), some (.ref ra), none, none] _ _
        refine turns_it (walk_enumT (K := K) (a := ra) (xs := t[i].map V.int))
          (fun m H6 => Same H H6 ∧ H6 D = some (.lst ((votesOf (tabs.take j) ++ (((tabVotes t).take i).flatten ++ (rowVotes i t[i]).take m)).map V.int))) ⟨s5, ?_⟩ (fun m H6 _ h6 => (TupK.of h6.1).sq hR) ?_ ?_
        · rw [e5]; simp
        · rintro m v H6 H7 hlt6 ⟨s6, e6⟩ ⟨T2, x6, y6, rfl, nT2, rfl, hx6, hy6⟩
          have hx' : some (V.int (m : Nat)) = some x6 := hx6
          cases hx'
          have hy' : (t[i].map V.int)[m]? = some y6 := hy6
          rw [List.getElem?_map] at hy'
          obtain ⟨n, hnm, rfl⟩ := Option.map_eq_some_iff.mp hy'
          rw [List.length_map] at hlt6
          refine ⟨T2, _, rfl, SqT.of upd_same, rfl, _, _, rfl, _, _, rfl, rfl, rfl, .int n, rfl, .int (i : Nat), rfl, .int (m : Nat), rfl, (i : Int), (m : Int), rfl, n, voteI (i : Int) (m : Int), rfl, rfl, .inr (vote_small _ _), ?_⟩
          refine ⟨_, upNew nT2 e6, ?_, samePut (s6.trans (sameNew nT2)) nD, ?_⟩
          · rw [List.length_map]; exact cap j m t i _ ht hti (by omega)
          · rw [upd_same, take_snoc (rowVotes_at hnm)]; simp
        · rintro H6 ⟨s6, e6⟩
          refine ⟨s6, ?_⟩
          rw [List.length_map, List.take_of_length_le (l := rowVotes i t[i]) (by rw [rowVotes_len]; exact Nat.le_refl _)] at e6
          rw [e6, take_snoc (tabVotes_at hti)]; simp
      · rintro H4 ⟨s4, e4⟩
        refine ⟨s4, ?_⟩
        rw [List.length_map, List.take_of_length_le (l := tabVotes t) (by rw [tabVotes_len]; omega)] at e4
        rw [e4, take_snoc ht]; simp [votesOf]
    · rintro H2 ⟨s2, e2⟩
      rw [lx, List.take_length] at e2
      exact ⟨D, _, rfl, SqL.of e2, q _ s2⟩
end
end Pv

namespace Pv
open PySem PySem.Spec PyProof.Rows L2
abbrev sLV : Stmt := topS 34
theorem scLV : FnScope ["_law_change_here", "_law_found", "_law_table_here", "_law_option", "_law_row", "_law_there", "_law_number"] ["_law_change_here"] (defScope sLV) := ⟨rfl, rfl, rfl, by decide +kernel, rfl, by decide +kernel, by decide +kernel⟩
abbrev sLS : Stmt := topS 36
theorem scLS : FnScope ["_law_assignment_here", "_law_found", "_law_numbers", "_law_rows", "_law_spot", "_law_number", "_law_row"] ["_law_assignment_here"] (defScope sLS) := ⟨rfl, rfl, rfl, by decide +kernel, rfl, by decide +kernel, by decide +kernel⟩
theorem vote_ints (s e : Int) : (if decide (e < s) then (1 : Int) else 0) - (if decide (e > s) then 1 else 0) = voteI s e := by
  unfold voteI
  by_cases h1 : e < s
  · have h2 : ¬ e > s := by omega
    simp [h1, h2]
  · by_cases h2 : e > s
    · simp [h1, h2]
    · simp [h1, h2]
section
variable {P : Program} {w : World} {K : PySem.W.Frag} {mg : Str → Option Value} {base : Heap}
def spLV (K : PySem.W.Frag) : Sp := fun vs H Q _ => ∃ (a : Addr) (tabs : List (List (List Int))), vs = [.ref a] ∧ Dp K H (.ref a) (dTabs tabs) ∧ tabs.length ≤ 20 ∧ (∀ t ∈ tabs, Sqr t) ∧ ∀ H', Same H H' → Q (.int (votesOf tabs).sum) H'
set_option maxHeartbeats 2000000 in
theorem ok_LV {f : Addr} {fd : FuncData} (F : Fun K "_law_votes" "_law_votes" sLV f fd)
    (m_enumerate : mg "enumerate" = none) (m_int : mg "int" = none) :
    FnOk P w K mg base CX0 1 f fd ["_law_change_here"] (spLV K) := by
  refine F.ok scLV (fun vs H Q E h => ?_) (fun cdv A outer s H vs Q E hr h => ?_)
  · obtain ⟨a, tabs, rfl, _⟩ := h; rfl
  · obtain ⟨a, tabs, rfl, hD, hn, hsq, q⟩ := h
    refine ⟨_, pss_cons (ps_set (i := 1) scLV.nd rfl (.inl rfl) (pe_int))
      (pss_cons (ps_for PassesOwn.never rfl (pi_tup (pv 0)) (pg_name (i := 2) scLV.nd rfl (.inl rfl))
        (pss_one (ps_for PassesOwn.never rfl (pi_enumT (by rfl) m_enumerate (pa_cons (pv 2) pa_nil)) (pg_tup rfl (pgs_cons (pg_name (i := 3) scLV.nd rfl (.inl rfl)) (pgs_cons (pg_name (i := 4) scLV.nd rfl (.inl rfl)) pgs_nil)))
          (pss_one (ps_for PassesOwn.never rfl (pi_enumT (by rfl) m_enumerate (pa_cons (pv 4) pa_nil)) (pg_tup rfl (pgs_cons (pg_name (i := 5) scLV.nd rfl (.inl rfl)) (pgs_cons (pg_name (i := 6) scLV.nd rfl (.inl rfl)) pgs_nil)))
            (pss_one (ps_set (i := 1) scLV.nd rfl (.inl rfl) (pe_op op_add (pv 1) (pe_op op_mul (pv 6) (pe_op op_sub (pe_callTy call_int1 (by rfl) m_int (by decide +kernel) (pa_cons (pe_cmpR op_lt (pv 5) (pv 3) (nomark _)) pa_nil)) (pe_callTy call_int1 (by rfl) m_int (by decide +kernel) (pa_cons (pe_cmpR op_gt (pv 5) (pv 3) (nomark _)) pa_nil))))))))))))
      (pss_one (ps_ret (pv 1)))), ?_⟩
    cases hD with
    | @tup _ xs _ ha hx =>
    have lx := DpAll.len hx
    rw [List.length_map] at lx
    refine ⟨.ref a, rfl, a, rfl, ⟨_, ha⟩, for_it (walk_tup (K := K) (a := a) (xs := xs))
      (fun j σ H2 => ∃ y2 y3 y4 y5 y6, σ = [some (.ref a), some (.int (votesOf (tabs.take j)).sum), y2, y3, y4, y5, y6] ∧ Same H H2) ⟨none, none, none, none, none, rfl, Same.refl _⟩ (fun j σ H2 _ h => by obtain ⟨_, _, _, _, _, _, s2⟩ := h; exact (TupK.of s2).sq ha) ?_ ?_⟩
    · rintro j x σ H2 H2' hlt ⟨y2, y3, y4, y5, y6, rfl, s2⟩ ⟨rfl, hxj⟩
      obtain ⟨d, hd, hxd⟩ := DpAll.at hx hxj
      rw [List.getElem?_map] at hd
      obtain ⟨t, ht, rfl⟩ := Option.map_eq_some_iff.mp hd
      obtain ⟨h1, h7, hrow⟩ := hsq t (List.mem_of_getElem? ht)
      obtain ⟨ta, ras, rfl, hT, hrl, hrs⟩ := tab_open hxd
      refine ⟨.ref ta, rfl, ta, _, rfl, (TupK.of s2).sq hT, for_it (walk_enumT (K := K) (a := ta) (xs := ras.map V.ref))
        (fun i σ H4 => ∃ y3 y4 y5 y6, σ = [some (.ref a), some (.int ((votesOf (tabs.take j)).sum + ((tabVotes t).take i).flatten.sum)), some (.ref ta), y3, y4, y5, y6] ∧ Same H H4) ⟨y3, y4, y5, y6, by simp, s2⟩ (fun i σ H4 _ h4 => by obtain ⟨_, _, _, _, _, s4⟩ := h4; exact (TupK.of s4).sq hT) ?_ ?_⟩
      · rintro i v σ H4 H5 hlt4 ⟨y3, y4, y5, y6, rfl, s4⟩ ⟨T, x4, y4', rfl, nT, rfl, hx4, hy4⟩
        have hx' : some (V.int (i : Nat)) = some x4 := hx4
        cases hx'
        have hy' : (ras.map V.ref)[i]? = some y4' := hy4
        rw [List.getElem?_map] at hy'
        obtain ⟨ra, hra, rfl⟩ := Option.map_eq_some_iff.mp hy'
        rw [List.length_map] at hlt4
        have hil : i < t.length := by omega
        have hti : t[i]? = some t[i] := List.getElem?_eq_getElem hil
        have hR := hrs i ra t[i] hra hti
        have s5 : Same H (upd H4 T (.tup [.int (i : Nat), .ref ra])) := s4.trans (sameNew nT)
        refine ⟨T, _, rfl, SqT.of upd_same, rfl, _, _, rfl, _, _, rfl, rfl, .ref ra, rfl, ra, _, rfl, (TupK.of s5).sq hR, for_it (walk_enumT (K := K) (a := ra) (xs := t[i].map V.int))
          (fun m σ H6 => ∃ y5 y6, σ = [some (.ref a), some (.int ((votesOf (tabs.take j)).sum + ((tabVotes t).take i).flatten.sum + ((rowVotes i t[i]).take m).sum)), some (.ref ta), some (.int (i : Nat)), some (.ref ra), y5, y6] ∧ Same H H6) ⟨y5, y6, by simp, s5⟩ (fun m σ H6 _ h6 => by obtain ⟨_, _, _, s6⟩ := h6; exact (TupK.of s6).sq hR) ?_ ?_⟩
        · rintro m v σ H6 H7 hlt6 ⟨y5, y6, rfl, s6⟩ ⟨T2, x6, y6', rfl, nT2, rfl, hx6, hy6⟩
          have hx' : some (V.int (m : Nat)) = some x6 := hx6
          cases hx'
          have hy' : (t[i].map V.int)[m]? = some y6' := hy6
          rw [List.getElem?_map] at hy'
          obtain ⟨n, hnm, rfl⟩ := Option.map_eq_some_iff.mp hy'
          refine ⟨T2, _, rfl, SqT.of upd_same, rfl, _, _, rfl, _, _, rfl, rfl, .int _, rfl, .int n, rfl, .int (m : Nat), rfl, .int (i : Nat), rfl, _, _, rfl, rfl, ?_⟩
          have hvi := vote_ints (i : Int) (m : Int)
          have hvs := vote_small (i : Int) (m : Int)
          rw [← hvi] at hvs
          refine .inr ⟨_, rfl, .int (m : Nat), rfl, .int (i : Nat), rfl, _, _, rfl, rfl, .inr ⟨_, rfl, _, _, rfl, rfl, _, _, rfl, rfl, .inr hvs, _, _, rfl, rfl, some (.int (m : Nat)), some (.int n), ?_, s6.trans (sameNew nT2)⟩⟩
          have es : ((rowVotes i t[i]).take (m + 1)).sum = ((rowVotes i t[i]).take m).sum + n * ((if decide ((m : Int) < (i : Int)) then (1 : Int) else 0) - (if decide ((m : Int) > (i : Int)) then 1 else 0)) := by
            rw [hvi, take_snoc (rowVotes_at hnm), List.sum_append]; simp
          rw [es, ← Int.add_assoc]
          rfl
        · rintro σ H6 ⟨y5, y6, rfl, s6⟩
          refine ⟨some (.int (i : Nat)), some (.ref ra), y5, y6, ?_, s6⟩
          rw [List.length_map, List.take_of_length_le (l := rowVotes i t[i]) (by rw [rowVotes_len]; exact Nat.le_refl _), take_snoc (tabVotes_at hti), List.flatten_append, List.sum_append]
          simp [Int.add_assoc]
      · rintro σ H4 ⟨y3, y4, y5, y6, rfl, s4⟩
        refine ⟨some (.ref ta), y3, y4, y5, y6, ?_, s4⟩
        rw [List.length_map, List.take_of_length_le (l := tabVotes t) (by rw [tabVotes_len]; omega), take_snoc ht]
        simp [votesOf]
    · rintro σ H2 ⟨y2, y3, y4, y5, y6, rfl, s2⟩
      rw [lx, List.take_length]
      exact ⟨_, rfl, q _ s2⟩
end
end Pv

namespace Pv
open PySem PySem.Spec PyProof.Rows L2
def stayUpTo (ns : List Int) (i k : Nat) : List Int := if k < i then stayRow ns (k : Int) else zeros ns.length
theorem zeros_len (n : Nat) : (zeros n).length = n := by simp [zeros]
theorem stay_set {ns : List Int} {k : Nat} {n : Int} (h : ns[k]? = some n) : (zeros ns.length).set k n = stayRow ns (k : Int) := by
  have hk := (List.getElem?_eq_some_iff.mp h).1
  apply List.ext_getElem?
  intro j
  by_cases hj : j < ns.length
  · rw [stayRow_at (List.getElem?_eq_getElem hj), List.getElem?_set]
    by_cases e : k = j
    · subst e
      rw [if_pos rfl, if_pos (by rw [zeros_len]; exact hj), if_pos rfl]
      rw [List.getElem?_eq_getElem hk] at h
      exact h.symm
    · rw [if_neg e, if_neg (by omega)]
      unfold zeros
      rw [List.getElem?_replicate, if_pos hj]
  · rw [List.getElem?_eq_none (by rw [List.length_set, zeros_len]; omega), List.getElem?_eq_none (by simp [stayRow]; omega)]
theorem nod_inj {ls : List Addr} (h : ls.Nodup) {i k : Nat} (hi : i < ls.length) (hk : k < ls.length) (e : ls[i] = ls[k]) : i = k := by
  rcases Nat.lt_trichotomy i k with hlt | he | hgt
  · exact absurd e (List.pairwise_iff_getElem.mp h i k hi hk hlt)
  · exact he
  · exact absurd e.symm (List.pairwise_iff_getElem.mp h k i hk hi hgt)
theorem freeU {H : Hp} {p b : Addr} {o : HO} (h : upd H p o b = none) : H b = none := by
  by_cases e : b = p
  · subst e; rw [upd_same] at h; cases h
  · rwa [upd_ne e] at h
theorem sameNone {H H1 : Hp} {b : Addr} (s : Same H H1) (h : H1 b = none) : H b = none := by
  cases e : H b with
  | none => rfl
  | some z => rw [s b z e] at h; cases h
theorem ixN_at {n i : Nat} (h : i < n) : ixN n (i : Int) = some i := by
  unfold ixN
  rw [if_pos (by omega), Int.toNat_natCast, if_pos (by omega)]
section
variable {P : Program} {w : World} {K : PySem.W.Frag} {mg : Str → Option Value} {base : Heap}
structure RowsAt (H0 H : Hp) (D : Addr) (ls : List Addr) (f : Nat → List Int) : Prop where
  d : H D = some (.lst (ls.map V.ref))
  at_ : ∀ (k : Nat) (l : Addr), ls[k]? = some l → H l = some (.lst ((f k).map V.int))
  new : ∀ l ∈ ls, H0 l = none
  nod : ls.Nodup
  off : D ∉ ls
def spLS (K : PySem.W.Frag) : Sp := fun vs H Q _ => ∃ (a : Addr) (rows : List (List Int)), vs = [.ref a] ∧ Dp K H (.ref a) (dAsg rows) ∧ rows.length ≤ 900 ∧ (∀ r ∈ rows, r.length ≤ 900) ∧ ∀ H' p, Same H H' → Dp K H' (.ref p) (dTabs (rows.map stayTab)) → Q (.ref p) H'
set_option maxHeartbeats 2000000 in
theorem ok_LS {f : Addr} {fd : FuncData} (F : Fun K "_law_still" "_law_still" sLS f fd)
    (m_len : mg "len" = none) (m_enumerate : mg "enumerate" = none) (m_tuple : mg "tuple" = none) :
    FnOk P w K mg base CX0 1 f fd ["_law_assignment_here"] (spLS K) := by
  refine F.ok scLS (fun vs H Q E h => ?_) (fun cdv A outer s H vs Q E hr h => ?_)
  · obtain ⟨a, rows, rfl, _⟩ := h; rfl
  · obtain ⟨a, rows, rfl, hA, hn, hrn, q⟩ := h
    refine ⟨_, pss_cons (ps_set (i := 1) scLS.nd rfl (.inl rfl) (pe_lst (pa_nil)))
      (pss_cons (ps_for PassesOwn.never rfl (pi_tup (pv 0)) (pg_name (i := 2) scLS.nd rfl (.inr rfl))
        (pss_cons (ps_setLc (i := 3) (own := [("_law_number", 5)]) (g := gName 5) (tt := tYes) (te := tOp rRep (tLst (tCons (tC (.int 0)) tNil)) (tCB (rLenQ K) (tCons (tVar 2) tNil))) rfl scLS.nd rfl rfl (sw_true rfl rfl rfl (by decide +kernel)) (pi_tup (pv 2)) (blkOk_by (N := ["_law_assignment_here", "_law_found", "_law_numbers", "_law_rows", "_law_spot", "_law_number", "_law_row"]) (sc := defScope sLS) (by decide +kernel)) (fun _ _ _ _ _ => pg_name (i := 5) scLS.nd rfl (.inl rfl)) (fun _ _ _ _ _ => pts_nil) (fun _ _ _ _ _ => pe_op op_rep (pe_lst (pa_cons (pe_int) pa_nil)) (pe_callB call_lenQ (by rfl) m_len PySem.boot_len (pa_cons (pv 2) pa_nil))))
        (pss_cons (ps_for PassesOwn.never rfl (pi_enumT (by rfl) m_enumerate (pa_cons (pv 2) pa_nil)) (pg_tup rfl (pgs_cons (pg_name (i := 4) scLS.nd rfl (.inl rfl)) (pgs_cons (pg_name (i := 5) scLS.nd rfl (.inl rfl)) pgs_nil)))
          (pss_one (ps_asg (pv 5) (pg_sub (pe_ix ix_list (pv 3) (pv 4) (fun _ _ => rfl)) (pv 4) set_list))))
        (pss_one (ps_expr (pe_bm PySem.F.plainAttrs_list PySem.F.slot_list_append PySem.F.type_list_append mt_append (pv 1) (pa_cons (pe_callTy call_tupQ (by rfl) m_tuple (by decide +kernel) (pa_cons (pe_lc (own := [("_law_row", 6)]) (g := gName 6) (tt := tYes) (te := tCB (rTupQ K) (tCons (tVar 6) tNil)) rfl scLS.nd (pi_list (pv 3)) (blkOk_by (N := ["_law_assignment_here", "_law_found", "_law_numbers", "_law_rows", "_law_spot", "_law_number", "_law_row"]) (sc := defScope sLS) (by decide +kernel)) (fun _ _ _ _ _ => pg_name (i := 6) scLS.nd rfl (.inl rfl)) (fun _ _ _ _ _ => pts_nil) (fun _ _ _ _ _ => pe_callTy call_tupQ (by rfl) m_tuple (by decide +kernel) (pa_cons (pv 6) pa_nil))) pa_nil)) pa_nil)))))))
      (pss_one (ps_ret (pe_callTy call_tupQ (by rfl) m_tuple (by decide +kernel) (pa_cons (pv 1) pa_nil))))), ?_⟩
    obtain ⟨_, ys, e, ha, hrows⟩ := asg_open hA
    cases e
    have ly := DpAll.len hrows
    rw [List.length_map] at ly
    refine ⟨(show (0 : Nat) ≤ sizeLine by decide), fun L nL => ?_⟩
    refine ⟨.ref a, rfl, a, rfl, ⟨_, (TupK.new nL).sq ha⟩, for_it (walk_tup (K := K) (a := a) (xs := ys))
      (fun j σ H2 => ∃ y2 y3 y4 y5 y6 vs, σ = [some (.ref a), some (.ref L), y2, y3, y4, y5, y6] ∧ Same H H2 ∧ H2 L = some (.lst vs) ∧ vs.length = j ∧ DpAll K H2 vs (((rows.take j).map stayTab).map dAsg))
      ⟨none, none, none, none, none, [], rfl, sameNew nL, upd_same, rfl, .nil⟩ (fun j σ H2 _ h => by obtain ⟨_, _, _, _, _, _, _, s2, _⟩ := h; exact (TupK.of s2).sq ha) ?_ ?_⟩
    · rintro j x σ H2 H2' hlt ⟨y2, y3, y4, y5, y6, vs, rfl, s2, eL, hvl, hvs⟩ ⟨rfl, hxj⟩
      obtain ⟨d, hd, hxd⟩ := DpAll.at hrows hxj
      rw [List.getElem?_map] at hd
      obtain ⟨ns, hns, rfl⟩ := Option.map_eq_some_iff.mp hd
      obtain ⟨rA, rfl, hR⟩ := dI_ref hxd
      have hjl : j < rows.length := (List.getElem?_eq_some_iff.mp hns).1
      have hnl := hrn ns (List.mem_of_getElem? hns)
      have hR2 := (TupK.of s2).sq hR
      refine ⟨.ref rA, rfl, rA, rfl, ⟨_, hR2⟩, fun D nD => lc_tup (xs := ns.map V.int)
        (fun i H4 => Same H2' H4 ∧ ∃ ls, ls.length = i ∧ RowsAt H2' H4 D ls (stayUpTo ns 0)) ⟨sameNew nD, [], rfl, ⟨upd_same, fun k l h => by simp at h, fun l h => by simp at h, List.nodup_nil, by simp⟩⟩ (fun i H4 _ h4 => (TupK.of h4.1).sq hR2) ?_ ?_⟩
      · rintro i x H4 hx ⟨s4, ls, hll, R4⟩
        rw [List.getElem?_map] at hx
        obtain ⟨n, hni, rfl⟩ := Option.map_eq_some_iff.mp hx
        have hil : i < ns.length := (List.getElem?_eq_some_iff.mp hni).1
        refine ⟨rfl, (show (1 : Nat) ≤ sizeLine by decide), fun p0 n0 => ⟨.ref rA, rfl, rA, _, rfl, .inr ((TupK.new n0).sq ((TupK.of s4).sq hR2)), p0, _, _, rfl, rfl, upd_same, by omega, ?_, ?_, fun p1 n1 => ?_⟩⟩
        · rw [List.length_map]; omega
        · rw [List.length_map, Int.toNat_natCast]; have := small (n := ns.length) (by omega); simp; omega
        have ez : (List.replicate ((((ns.map V.int).length : Nat) : Int)).toNat [V.int 0]).flatten = (zeros ns.length).map V.int := by rw [List.length_map, Int.toNat_natCast, zeros_V]
        rw [ez]
        have np1 := freeU n1
        have s01 : Same H4 (upd (upd H4 p0 (.lst [.int 0])) p1 (.lst ((zeros ns.length).map V.int))) := (sameNew n0).trans (sameNew n1)
        have hp1 : p1 ∉ ls := fun hm => by
          obtain ⟨k, hk, e⟩ := List.getElem_of_mem hm
          have := R4.at_ k p1 (by rw [List.getElem?_eq_getElem hk, e])
          rw [np1] at this; cases this
        have hpD : p1 ≠ D := fun e => by have := R4.d; rw [← e, np1] at this; cases this
        refine ⟨_, s01 _ _ R4.d, by rw [List.length_map, hll]; exact small (by omega), samePut (s4.trans s01) nD, ls ++ [p1], by simp [hll], ?_⟩
        refine ⟨by rw [upd_same, List.map_append]; rfl, fun k l hk => ?_, fun l hl => ?_, ?_, ?_⟩
        · by_cases hkl : k < ls.length
          · rw [List.getElem?_append_left hkl] at hk
            have hm := List.mem_of_getElem? hk
            have hlD : l ≠ D := fun e => R4.off (by rw [← e]; exact hm)
            rw [upd_ne hlD]
            exact s01 _ _ (R4.at_ k l hk)
          · rw [List.getElem?_append_right (by omega)] at hk
            have e0 : k - ls.length = 0 := by have := (List.getElem?_eq_some_iff.mp hk).1; simp at this; omega
            rw [e0] at hk
            cases hk
            rw [upd_ne hpD, upd_same]
            rfl
        · rcases List.mem_append.mp hl with h | h
          · exact R4.new l h
          · rw [List.mem_singleton] at h; rw [h]; exact sameNone s4 np1
        · rw [List.nodup_append]
          exact ⟨R4.nod, by simp, fun a ha b hb e => by rw [List.mem_singleton] at hb; exact hp1 (by rw [← hb, ← e]; exact ha)⟩
        · intro h
          rcases List.mem_append.mp h with h | h
          · exact R4.off h
          · exact hpD (List.mem_singleton.mp h).symm
      · rintro H4 ⟨s4, ls, hll, R4⟩
        rw [List.length_map] at hll
        refine ⟨.ref rA, rfl, rA, _, rfl, (TupK.of s4).sq hR2, for_it (walk_enumT (K := K) (a := rA) (xs := ns.map V.int))
          (fun i σ H5 => ∃ z4 z5, σ = [some (.ref a), some (.ref L), some (.ref rA), some (.ref D), z4, z5, y6] ∧ Same H2' H5 ∧ RowsAt H2' H5 D ls (stayUpTo ns i)) ⟨y4, y5, rfl, s4, R4⟩ (fun i σ H5 _ h5 => by obtain ⟨_, _, _, s5, _⟩ := h5; exact (TupK.of s5).sq hR2) ?_ ?_⟩
        · rintro i v σ H5 H6 hlti ⟨z4, z5, rfl, s5, R5⟩ ⟨T, x, y, rfl, nT, rfl, hx, hy⟩
          have hx' : some (V.int (i : Nat)) = some x := hx
          cases hx'
          have hy' : (ns.map V.int)[i]? = some y := hy
          rw [List.getElem?_map] at hy'
          obtain ⟨n, hni, rfl⟩ := Option.map_eq_some_iff.mp hy'
          have hil : i < ns.length := (List.getElem?_eq_some_iff.mp hni).1
          have hls : ls[i]? = some ls[i] := List.getElem?_eq_getElem (by omega)
          have sT : Same H5 (upd H5 T (.tup [.int (i : Nat), .int n])) := sameNew nT
          have el := sT _ _ (R5.at_ i _ hls)
          have e0 : stayUpTo ns i i = zeros ns.length := by unfold stayUpTo; rw [if_neg (by omega)]
          rw [e0] at el
          have hm := List.getElem_mem (show i < ls.length by omega)
          refine ⟨T, _, rfl, SqT.of upd_same, rfl, _, _, rfl, _, _, rfl, rfl, .int n, rfl, .ref D, rfl, .int (i : Nat), rfl, D, _, (i : Int), .ref ls[i], rfl, rfl, SqL.of (sT _ _ R5.d), atI_nat (by rw [List.getElem?_map, hls]; rfl), .int (i : Nat), rfl, ls[i], _, (i : Int), i, rfl, rfl, el, by rw [List.length_map, zeros_len]; exact ixN_at hil, _, _, rfl, samePut (s5.trans sT) (R5.new _ hm), ?_⟩
          refine ⟨?_, fun k l hk => ?_, R5.new, R5.nod, R5.off⟩
          · rw [upd_ne (fun e => R5.off (by rw [e]; exact hm))]
            exact sT _ _ R5.d
          · by_cases hki : k = i
            · subst hki
              rw [hls] at hk
              cases hk
              rw [upd_same]
              have e1 : stayUpTo ns (k + 1) k = stayRow ns (k : Int) := by unfold stayUpTo; rw [if_pos (by omega)]
              rw [e1, ← stay_set hni, List.map_set]
            · have hne : l ≠ ls[i] := fun e => hki (by
                have hkl := (List.getElem?_eq_some_iff.mp hk).1
                have h1 : ls[k] = ls[i] := by rw [← e]; exact (List.getElem?_eq_some_iff.mp hk).2
                exact nod_inj R5.nod _ _ h1)
              rw [upd_ne hne]
              have e1 : stayUpTo ns (i + 1) k = stayUpTo ns i k := by
                unfold stayUpTo
                by_cases h : k < i
                · rw [if_pos h, if_pos (by omega)]
                · rw [if_neg h, if_neg (by omega)]
              rw [e1]
              exact sT _ _ (R5.at_ k l hk)
        · rintro σ H5 ⟨z4, z5, rfl, s5, R5⟩
          rw [List.length_map] at R5
          have lt : (stayTab ns).length = ns.length := by simp [stayTab]
          have eL5 := s5 _ _ eL
          refine ⟨.ref L, rfl, .inl ⟨rfl, _, SqL.of eL5⟩, .ref D, rfl, D, rfl, ⟨_, SqL.of R5.d⟩, fun D3 nD3 => lc_it (walk_list (K := K) (a := D) (xs := ls.map V.ref))
            (fun i H6 => Same H5 H6 ∧ ∃ ws, H6 D3 = some (.lst ws) ∧ ws.length = i ∧ DpAll K H6 ws (((stayTab ns).take i).map dI)) ⟨sameNew nD3, [], upd_same, rfl, .nil⟩ (fun i H6 _ h6 => SqL.of (h6.1 _ _ R5.d)) ?_ ?_⟩
          · rintro i v H6 H6' hlti ⟨s6, ws, e6, hwl, hws⟩ ⟨rfl, hv⟩
            have hv' : (ls.map V.ref)[i]? = some v := hv
            rw [List.getElem?_map] at hv'
            obtain ⟨l, hl, rfl⟩ := Option.map_eq_some_iff.mp hv'
            have hil : i < ns.length := by have := (List.getElem?_eq_some_iff.mp hl).1; omega
            have el := R5.at_ i l hl
            have e1 : stayUpTo ns ns.length i = stayRow ns (i : Int) := by unfold stayUpTo; rw [if_pos hil]
            rw [e1] at el
            refine ⟨rfl, .ref l, rfl, l, _, rfl, .inl ⟨SqL.of (s6 _ _ el), fun p np => ?_⟩⟩
            have s7 : Same H6' (upd H6' p (.tup ((stayRow ns (i : Int)).map V.int))) := sameNew np
            have e7 := s7 _ _ e6
            have tk : TupK (upd H6' p (.tup ((stayRow ns (i : Int)).map V.int))) (upd (upd H6' p (.tup ((stayRow ns (i : Int)).map V.int))) D3 (.lst (ws ++ [.ref p]))) := TupK.put e7
            refine ⟨ws, e7, by rw [hwl]; exact small (by omega), samePut (s6.trans s7) nD3, _, upd_same, by simp [hwl], ?_⟩
            rw [take_snoc (stayTab_at hil), List.map_append]
            exact DpAll.snoc (((TupK.of s7).trans tk).dpAll _ _ (to_rows _) hws) (dI_sq (tk.sq (SqT.of upd_same)))
          · rintro H6 ⟨s6, ws, e6, hwl, hws⟩
            rw [List.length_map, List.take_of_length_le (by omega)] at hws
            refine ⟨D3, _, rfl, .inl ⟨SqL.of e6, fun p np => ?_⟩⟩
            have s7 : Same H2' (upd H6 p (.tup ws)) := (s5.trans s6).trans (sameNew np)
            have e7 := s7 _ _ eL
            have tk5 : TupK (upd H6 p (.tup ws)) (upd (upd H6 p (.tup ws)) L (.lst (vs ++ [.ref p]))) := TupK.put e7
            refine ⟨L, vs, .ref p, rfl, rfl, e7, by rw [hvl]; exact small (by omega), _, _, _, _, _, _, rfl, samePut (s2.trans s7) nL, upd_same, by simp [hvl], ?_⟩
            have et : ((rows.take (j + 1)).map stayTab).map dAsg = ((rows.take j).map stayTab).map dAsg ++ [dAsg (stayTab ns)] := by rw [take_snoc hns]; simp
            rw [et]
            exact DpAll.snoc (((TupK.of s7).trans tk5).dpAll _ _ (to_tabs _) hvs) (tk5.dp _ _ (to_dAsg _) (.tup (SqT.of upd_same) ((TupK.new np).dpAll _ _ (to_rows _) hws)))
    · rintro σ H2 ⟨y2, y3, y4, y5, y6, vs, rfl, s2, eL, hvl, hvs⟩
      rw [ly, List.take_length] at hvs
      exact ⟨_, rfl, L, _, rfl, .inl ⟨SqL.of eL, fun p np => q _ _ (s2.trans (sameNew np)) (.tup (SqT.of upd_same) ((TupK.new np).dpAll _ _ (to_tabs _) hvs))⟩⟩
end
end Pv

namespace Pv
open PySem PySem.Spec PyProof.Rows L2
abbrev sLT : Stmt := topS 35
theorem scLT : FnScope ["_law_instance_here", "_law_assignment_here", "_law_value", "_law_found", "error", "_law_alone"] ["_law_instance_here", "_law_assignment_here", "_law_value"] (defScope sLT) := ⟨rfl, rfl, rfl, by decide +kernel, rfl, by decide +kernel, by decide +kernel⟩
def tabsOf : PyData → List (List (List Int))
  | .tuple ts => ts.map tabRows
  | _ => []
theorem change_tabs {cs : List Int} {gs : List Gp} {asg : List (List Int)} {d : PyData} (h : changeD cs gs asg d = true) (ha : ∀ r ∈ asg, 1 ≤ r.length ∧ r.length ≤ 7) :
    d = dTabs (tabsOf d) ∧ (∀ t ∈ tabsOf d, Sqr t) ∧ (tabsOf d).length = asg.length := by
  cases d with
  | tuple ts =>
    simp only [changeD, Bool.and_eq_true, decide_eq_true_eq] at h
    obtain ⟨hl, h1, _⟩ := h
    refine ⟨?_, tables_sqr hl h1 ha, by simp [tabsOf, hl]⟩
    show PyData.tuple ts = .tuple ((ts.map tabRows).map dAsg)
    rw [← tables_rows hl h1]
  | _ => simp [changeD] at h
def Lim (cs : List Int) (gs : List Gp) (asg : List (List Int)) : Prop := cs.length ≤ 900 ∧ gs.length ≤ 900 ∧ InR cs.length gs ∧ (∀ g ∈ gs, g.1.length ≤ 900) ∧ asg.length ≤ 900 ∧ ∀ r ∈ asg, 1 ≤ r.length ∧ r.length ≤ 7
section
variable {P : Program} {w : World} {K : PySem.W.Frag} {mg : Str → Option Value} {base : Heap}
def spChX (K : PySem.W.Frag) (C : Addr) : Sp := fun vs H Q E => ∃ (st r i a : Addr) (v : V) (cs : List Int) (gs : List Gp) (asg : List (List Int)) (d : PyData), vs = [.ref i, .ref a, v] ∧ Dp K H (.ref i) (dInst cs gs) ∧ Dp K H (.ref a) (dAsg asg) ∧ Dq K st r H v d ∧ Lim cs gs asg ∧
  ∀ H', Same H H' → (changeD cs gs asg d = false → E (.ref C) none H') ∧ (changeD cs gs asg d = true → ∀ p, Dp K H' (.ref p) (dAsg ((tabsOf d).map colSum)) → Q (.ref p) H')
theorem ok_CX {f fIC fTR cNC : Addr} {fd fdIC fdTR : FuncData} (F : Fun K "change_result" "change_result" sCR f fd)
    (FIC : Fun K "is_change" "is_change" sIC fIC fdIC) (bIC : Binds K fdIC ["instance", "assignment", "value"] []) (gIC : mg "is_change" = some (.ref fIC)) (GIC : FnOk P w K mg base CX0 5 fIC fdIC ["instance", "assignment", "value"] (spIsC K))
    (FTR : Fun K "tables_result" "tables_result" sTR fTR fdTR) (bTR : Binds K fdTR ["tables"] []) (gTR : mg "tables_result" = some (.ref fTR)) (GTR : FnOk P w K mg base CX0 1 fTR fdTR ["tables"] (spTabRes K))
    (gNC : mg "NoChange" = some (.ref cNC)) (IC : IsC K cNC) (xNC : PySem.W.excIn K cNC VEbm "ValueError.__new__" = true) :
    FnOk P w K mg base (L2.CX P w) 6 f fd ["instance", "assignment", "change"] (spChX K cNC) := by
  refine F.okX scCR (fun vs H Q E h => ?_) (fun cdv A outer s H vs Q E hr h => ?_)
  · obtain ⟨st, r, i, a, v, cs, gs, asg, d, rfl, _⟩ := h; rfl
  · obtain ⟨st, r, i, a, v, cs, gs, asg, d, rfl, hI, hA, hd, ⟨l1, l2, l3, l4, l5, l6⟩, q⟩ := h
    refine ⟨_, pss_cons (ps_if (pt_not (pt_val (pe_call GIC (hr.mono (by omega)) (by rfl) gIC FIC.kp bIC .nil pass0 (pa_cons (pv 0) (pa_cons (pv 1) (pa_cons (pv 2) pa_nil))))))
        (pss_one (ps_raise rfl (takes_of rfl rfl rfl rfl) (pmk_own0 PySem.F.excBase_ValueError xNC gNC IC.kp IC.raises (by rfl)))) pss_nil)
      (pss_one (ps_ret (pe_call GTR (hr.mono (by omega)) (by rfl) gTR FTR.kp bTR .nil pass0 (pa_cons (pv 2) pa_nil)))), ?_⟩
    refine ⟨.ref i, rfl, .ref a, rfl, v, rfl, st, r, i, a, v, cs, gs, asg, d, rfl, hI, hA, hd, l1, l2, l3, l4, l5, l6, fun H2 s2 => ?_⟩
    cases hc : changeD cs gs asg d with
    | false => exact ⟨_, rfl, iteT ((q H2 s2).1 hc)⟩
    | true =>
      obtain ⟨e, hsq, hl⟩ := change_tabs hc l6
      have hd2 : Dq K st r H2 v (dTabs (tabsOf d)) := by rw [← e]; exact hd.lasts (.of s2)
      obtain ⟨p, rfl⟩ : ∃ p, v = .ref p := by cases hd2 with | tup _ _ => exact ⟨_, rfl⟩
      exact ⟨_, rfl, iteF ⟨.ref p, rfl, p, tabsOf d, rfl, Dq.to_dp (to_dTabs _) hd2, by omega, hsq, fun H3 p' s3 h3 => (q H3 (s2.trans s3)).2 hc p' h3⟩⟩
/-! what the law is told -/
def spLT (K : PySem.W.Frag) : Sp := fun vs H Q _ => ∃ (st r i a : Addr) (v : V) (cs : List Int) (gs : List Gp) (asg : List (List Int)) (d : PyData), vs = [.ref i, .ref a, v] ∧ Dp K H (.ref i) (dInst cs gs) ∧ Dp K H (.ref a) (dAsg asg) ∧ Dq K st r H v d ∧ Lim cs gs asg ∧
  ∀ H', Same H H' → (changeD cs gs asg d = false → Q (.str "no change") H') ∧ (changeD cs gs asg d = true → ∀ p, Dp K H' (.ref p) (dAsg ((tabsOf d).map colSum)) → Q (.ref p) H')
def tsLT (K : PySem.W.Frag) (cNC cBV cBe : Addr) (a : Addr) (cls : Value) (d : Option Addr) : TS :=
  tSeq (tAsg (tAndV (tCB (rIsX K a cls d) (tCons (tVar 4) (tCons (tC (.ref cNC)) tNil))) (tCB (rIsX K a cls d) (tCons (tVar 4) (tCons (tC (.ty "ValueError")) tNil)))) (gName 5))
    (tAsg (tOp (rIxL K) (tLst (tCons (tC (.str "other")) (tCons (tC (.str "no change")) tNil))) (tCB (fun xs H Q => (∃ i, xs = [.int i] ∧ Q (.int i) H) ∨ ∃ k, xs = [.bl k] ∧ Q (.int (if k then 1 else 0)) H)
      (tCons (tAndV (tVar 5) (tNotV (tCB (rIsX K a cls d) (tCons (tVar 4) (tCons (tTup (tCons (tC (.ref cBV)) (tCons (tC (.ref cBe)) tNil))) tNil))))) tNil))) (gName 3))
theorem ok_LT {f fCR cNC cVE cBV cBe : Addr} {fd fdCR : FuncData} (F : Fun K "_law_told" "_law_told" sLT f fd)
    (FCR : Fun K "change_result" "change_result" sCR fCR fdCR) (bCR : Binds K fdCR ["instance", "assignment", "change"] []) (gCR : mg "change_result" = some (.ref fCR)) (GCR : FnOk P w K mg base (L2.CX P w) 6 fCR fdCR ["instance", "assignment", "change"] (spChX K cNC))
    (gNC : mg "NoChange" = some (.ref cNC)) (gVE : mg "VoteError" = some (.ref cVE)) (gBV : mg "BadVector" = some (.ref cBV)) (gBe : mg "Beaten" = some (.ref cBe)) (IC : IsC K cNC)
    (x1 : PySem.W.exmOne K (.ref cNC) (.ref cVE) = some true) (x2 : PySem.W.kitOne K (.ref cNC) (.ref cNC) = some true) (x3 : PySem.W.kitOne K (.ref cNC) (.type "ValueError") = some true) (x4 : PySem.W.kitAny K (.ref cNC) [.ref cBV, .ref cBe] = some false)
    (m_isinstance : mg "isinstance" = none) (m_int : mg "int" = none) (m_ValueError : mg "ValueError" = none) :
    FnOk P w K mg base CX0 8 f fd ["_law_instance_here", "_law_assignment_here", "_law_value"] (spLT K) := by
  refine F.ok scLT (fun vs H Q E h => ?_) (fun cdv A outer s H vs Q E hr h => ?_)
  · obtain ⟨st, r, i, a, v, cs, gs, asg, d, rfl, _⟩ := h; rfl
  · obtain ⟨st, r, i, a, v, cs, gs, asg, d, rfl, hI, hA, hd, hl, q⟩ := h
    refine ⟨_, pss_cons (ps_set (i := 3) scLT.nd rfl (.inl rfl) pe_non)
      (pss_cons (ps_try_as (i := 4) (tb := fun W => tAsg (tCallS (spChX K cNC) (WE W) (tCons (tVar 0) (tCons (tVar 1) (tCons (tVar 2) tNil)))) (gName 3)) (ts := tsLT K cNC cBV cBe) (Wout := fun _ _ _ _ => False) rfl rfl scLT.nd rfl rfl ⟨rfl, by decide, Or.inl gVE⟩ takes0
        (fun W pn xe tk _ => pss_one (ps_set (i := 3) scLT.nd rfl (.inl rfl) (by exact (pe_callS GCR (hr.mono (by omega)) rfl gCR FCR.kp bCR (fun σ => passAt tk σ) (by exact (pa_cons (pv 0) (pa_cons (pv 1) (pa_cons (pv 2) pa_nil))))))))
        (fun a oe cls d pn hz hf => by
          refine pss_cons (ps_set (i := 5) scLT.nd rfl (.inl rfl) (pe_and (pe_callB (call_isX hz hf) (by rfl) m_isinstance (by decide +kernel) (pa_cons (pv 4) (pa_cons (pe_glob (v := .ref cNC) (by rfl) gNC rfl) pa_nil))) (pe_one (pe_callB (call_isX hz hf) (by rfl) m_isinstance (by decide +kernel) (pa_cons (pv 4) (pa_cons (pe_bltn (v := .ty "ValueError") (by rfl) m_ValueError (by decide +kernel) rfl) pa_nil))))))
            (pss_one (ps_set (i := 3) scLT.nd rfl (.inl rfl) (pe_ix ix_list (pe_lst (pa_cons pe_str (pa_cons pe_str pa_nil))) (pe_callTy call_int1 (by rfl) m_int (by decide +kernel) (pa_cons (pe_and (pv 5) (pe_one (pe_not (pe_callB (call_isX hz hf) (by rfl) m_isinstance (by decide +kernel) (pa_cons (pv 4) (pa_cons (pe_tup (pa_cons (pe_glob (v := .ref cBV) (by rfl) gBV rfl) (pa_cons (pe_glob (v := .ref cBe) (by rfl) gBe rfl) pa_nil))) pa_nil)))))) pa_nil)) (fun _ _ => rfl))))))
      (pss_one (ps_ret (pv 3)))), ?_⟩
    refine ⟨.ref i, rfl, .ref a, rfl, v, rfl, st, r, i, a, v, cs, gs, asg, d, rfl, hI, hA, hd, hl, fun H2 s2 => ⟨fun hc => ?_, fun hc p hp => ?_⟩⟩
    · refine ⟨true, x1, fun _ e ne => ?_, fun z => nomatch z⟩
      refine ⟨.ref e, rfl, cNC, .ref cNC, true, rfl, IC, (fun _ z => nomatch z), rfl, .inl ⟨_, .own _, x2⟩, _, rfl, iteT ?_⟩
      refine ⟨.ref e, rfl, cNC, .ty "ValueError", true, rfl, IC, (fun _ z => nomatch z), rfl, .inl ⟨_, .ty _, x3⟩, ?_⟩
      refine ⟨(show (2 : Nat) ≤ sizeLine by decide), fun L nL => ⟨_, rfl, _, rfl, iteT ?_⟩⟩
      refine ⟨.ref e, rfl, (show (2 : Nat) ≤ sizeLine by decide), fun T nT => ?_⟩
      refine ⟨cNC, .ref T, false, rfl, IC, (fun _ z => nomatch z), rfl, .inr ⟨T, _, _, rfl, upd_same, .cons (.own _) (.cons (.own _) .nil), x4⟩, ?_⟩
      refine ⟨_, rfl, .inr ⟨_, rfl, ?_⟩⟩
      refine ⟨L, _, _, _, rfl, rfl, SqL.of (upNew nT upd_same), rfl, _, rfl, ?_⟩
      exact (q _ ((s2.trans (sameNew nL)).trans (sameNew nT))).1 hc
    · exact ⟨_, rfl, (q H2 s2).2 hc p hp⟩
end
end Pv

namespace Pv
open PySem PySem.Spec PyProof.Rows L2
/-! what a change and its reverse are, in numbers -/
theorem colAt_len (t : List (List Int)) (j : Nat) : (colAt t j).length = t.length := by simp [colAt]
theorem colAt_at {t : List (List Int)} {j k : Nat} {r : List Int} (h : t[k]? = some r) : (colAt t j)[k]? = some (r.getD j 0) := by
  unfold colAt; rw [List.getElem?_map, h]; rfl
theorem getD_lt {l : List Int} {i : Nat} (h : i < l.length) : l.getD i 0 = l[i] := by
  rw [List.getD_eq_getElem?_getD, List.getElem?_eq_getElem h]; rfl
theorem colAt_trp {t : List (List Int)} (hs : ∀ r ∈ t, r.length = t.length) {i : Nat} (hi : i < t.length) : colAt (trp t) i = t[i] := by
  have hr := hs t[i] (List.getElem_mem hi)
  apply List.ext_getElem?
  intro k
  by_cases hk : k < t.length
  · rw [colAt_at (trp_at hk), List.getD_eq_getElem?_getD, colAt_at (List.getElem?_eq_getElem hi), List.getElem?_eq_getElem (by omega), Option.getD_some, getD_lt (by omega)]
  · rw [List.getElem?_eq_none (by rw [colAt_len, trp_len]; omega), List.getElem?_eq_none (by omega)]
theorem trp_trp {t : List (List Int)} (hs : ∀ r ∈ t, r.length = t.length) : trp (trp t) = t := by
  apply List.ext_getElem?
  intro k
  by_cases hk : k < t.length
  · rw [trp_at (by rw [trp_len]; exact hk), colAt_trp hs hk, List.getElem?_eq_getElem hk]
  · rw [List.getElem?_eq_none (by rw [trp_len, trp_len]; omega), List.getElem?_eq_none (by omega)]
theorem trp_sum (t : List (List Int)) : (trp t).map List.sum = colSum t := by unfold trp colSum; rw [List.map_map]; rfl
theorem btw_trp {n o : List Int} {t : List (List Int)} (h : Btw n o t) : Btw o n (trp t) := by
  have hol : o.length = t.length := by rw [← h.col, colSum_len]
  have hs : ∀ r ∈ t, r.length = t.length := fun r hr => by rw [h.row r hr, h.len]
  refine ⟨by rw [trp_len, hol], fun r hr => ?_, fun r hr x hx => ?_, by rw [trp_sum, h.col], ?_⟩
  · obtain ⟨j, _, rfl⟩ := List.mem_map.mp hr
    rw [colAt_len, hol]
  · obtain ⟨j, hj, rfl⟩ := List.mem_map.mp hr
    have hj := List.mem_range.mp hj
    obtain ⟨r', hr', rfl⟩ := List.mem_map.mp hx
    have hl : j < r'.length := by rw [hs r' hr']; exact hj
    rw [getD_lt hl]
    exact h.bd r' hr' _ (List.getElem_mem hl)
  · rw [← trp_sum, trp_trp hs, h.sum]
theorem chg_trp {one other : List (List Int)} {tabs : List (List (List Int))} (pl : other.length = one.length) (h : Chg one other tabs) : Chg other one (tabs.map trp) := by
  refine ⟨by rw [List.length_map, h.1, pl], fun k n o tab hn ho ht => ?_⟩
  rw [List.getElem?_map] at ht
  obtain ⟨t, ht2, rfl⟩ := Option.map_eq_some_iff.mp ht
  exact btw_trp (h.2 k o n t ho hn ht2)
theorem chg_at {one other : List (List Int)} {tabs : List (List (List Int))} (pl : other.length = one.length) (h : Chg one other tabs) {t : List (List Int)} (ht : t ∈ tabs) : ∃ (n o : List Int), n ∈ one ∧ o ∈ other ∧ Btw n o t := by
  obtain ⟨k, hk, e⟩ := List.getElem_of_mem ht
  have h1 : k < one.length := by rw [← h.1]; exact hk
  have h2 : k < other.length := by rw [pl]; exact h1
  exact ⟨one[k], other[k], List.getElem_mem _, List.getElem_mem _, h.2 k _ _ t (List.getElem?_eq_getElem h1) (List.getElem?_eq_getElem h2) (by rw [List.getElem?_eq_getElem hk, e])⟩
theorem chg_sqr {one other : List (List Int)} {tabs : List (List (List Int))} (pl : other.length = one.length) (h : Chg one other tabs) (ho : ∀ r ∈ one, 1 ≤ r.length ∧ r.length ≤ 7) : ∀ t ∈ tabs, Sqr t := by
  intro t ht
  obtain ⟨n, o, hn, _, b⟩ := chg_at pl h ht
  have := ho n hn
  have hl := b.len
  exact ⟨by omega, by omega, fun r hr => by rw [b.row r hr, hl]⟩
theorem tabs_trp2 {tabs : List (List (List Int))} (h : ∀ t ∈ tabs, Sqr t) : (tabs.map trp).map trp = tabs := by
  rw [List.map_map]
  conv => rhs; rw [← List.map_id tabs]
  exact List.map_congr_left fun t ht => trp_trp (h t ht).2.2
theorem chg_res {one other : List (List Int)} {tabs : List (List (List Int))} (pl : other.length = one.length) (h : Chg one other tabs) : tabs.map colSum = other := by
  have hl := h.1
  apply List.ext_getElem?
  intro k
  by_cases hk : k < tabs.length
  · have b := h.2 k _ _ _ (List.getElem?_eq_getElem (by omega)) (List.getElem?_eq_getElem (by omega)) (List.getElem?_eq_getElem hk)
    rw [List.getElem?_map, List.getElem?_eq_getElem hk, Option.map_some, b.col, List.getElem?_eq_getElem]
  · rw [List.getElem?_eq_none (by rw [List.length_map]; omega), List.getElem?_eq_none (by omega)]
theorem table_true {n o : List Int} {t : List (List Int)} (h : Btw n o t) : tableD n (dAsg t) = true := by
  unfold dAsg
  simp only [tableD, List.length_map, Bool.and_eq_true, decide_eq_true_eq]
  refine ⟨h.len, List.all_eq_true.mpr fun q hq => ?_⟩
  obtain ⟨k, hk, e⟩ := List.getElem_of_mem hq
  have h1 : (n.zip (t.map dI))[k]? = some q := by rw [List.getElem?_eq_getElem hk, e]
  rw [List.getElem?_zip_eq_some] at h1
  obtain ⟨h1, h2⟩ := h1
  rw [List.getElem?_map] at h2
  obtain ⟨r, hr, e2⟩ := Option.map_eq_some_iff.mp h2
  have hm := List.mem_of_getElem? hr
  have hs : r.sum = q.1 := by
    have h3 : (t.map List.sum)[k]? = some q.1 := by rw [h.sum]; exact h1
    rw [List.getElem?_map, hr] at h3
    exact Option.some.inj h3
  rw [← e2, splitD_dI, h.row r hm, decide_eq_true rfl, Bool.true_and]
  unfold shareOk
  rw [hs, decide_eq_true rfl, Bool.and_true, List.all_eq_true]
  intro x hx
  have h4 := le_sum (row := r) (fun x hx => (h.bd r hm x hx).1)
  exact decide_eq_true ⟨(h.bd r hm x hx).1, by rw [← hs]; exact h4.2 x hx⟩
theorem tabRows_dAsg (t : List (List Int)) : tabRows (dAsg t) = t := by
  simp only [tabRows, dAsg, List.map_map]
  conv => rhs; rw [← List.map_id t]
  refine List.map_congr_left fun r _ => ?_
  simp [rowD, dI, intsOf, intsAll_ints]
theorem chg_true {cs : List Int} {gs : List Gp} {one other : List (List Int)} {tabs : List (List (List Int))} (pl : other.length = one.length) (h : Chg one other tabs) (hh : Held cs gs other) : changeD cs gs one (dTabs tabs) = true := by
  have hl := h.1
  unfold dTabs
  simp only [changeD, List.length_map, Bool.and_eq_true, decide_eq_true_eq]
  refine ⟨h.1, List.all_eq_true.mpr fun q hq => ?_, ?_⟩
  · obtain ⟨k, hk, e⟩ := List.getElem_of_mem hq
    have h1 : (one.zip (tabs.map dAsg))[k]? = some q := by rw [List.getElem?_eq_getElem hk, e]
    rw [List.getElem?_zip_eq_some] at h1
    obtain ⟨h1, h2⟩ := h1
    rw [List.getElem?_map] at h2
    obtain ⟨t, ht, e2⟩ := Option.map_eq_some_iff.mp h2
    have hk1 := (List.getElem?_eq_some_iff.mp h1).1
    rw [← e2]
    exact table_true (h.2 k _ _ t h1 (List.getElem?_eq_getElem (by omega)) ht)
  · have e : ((tabs.map dAsg).map tabRows).map colSum = other := by
      rw [List.map_map (f := dAsg) (g := tabRows)]
      have : tabs.map (tabRows ∘ dAsg) = tabs := by
        conv => rhs; rw [← List.map_id tabs]
        exact List.map_congr_left fun t _ => tabRows_dAsg t
      rw [this]
      exact chg_res pl h
    rw [e]
    exact hh
/-! the change in which nobody moves -/
theorem sum_pick (f : Nat → Int) (k : Nat) : ∀ m : Nat, ((List.range m).map fun (j : Nat) => if (j : Int) = (k : Int) then f j else 0).sum = if k < m then f k else 0
  | 0 => by simp
  | m + 1 => by
    rw [List.range_succ, List.map_append, List.sum_append, sum_pick f k m]
    simp only [List.map_cons, List.map_nil, List.sum_cons, List.sum_nil]
    by_cases h1 : k < m
    · rw [if_pos h1, if_neg (by omega), if_pos (by omega)]; omega
    · by_cases h2 : m = k
      · subst h2; rw [if_neg h1, if_pos rfl, if_pos (by omega)]; omega
      · rw [if_neg h1, if_neg (by omega), if_neg (by omega)]; rfl
theorem stayRow_len (n : List Int) (o : Int) : (stayRow n o).length = n.length := by simp [stayRow]
theorem stayTab_len (n : List Int) : (stayTab n).length = n.length := by simp [stayTab]
theorem stay_get {n : List Int} {o : Int} {i : Nat} (h : i < n.length) : (stayRow n o).getD i 0 = if (i : Int) = o then n[i] else 0 := by
  rw [List.getD_eq_getElem?_getD, stayRow_at (List.getElem?_eq_getElem h)]; rfl
theorem trp_stay (n : List Int) : trp (stayTab n) = stayTab n := by
  apply List.ext_getElem?
  intro k
  by_cases hk : k < n.length
  · rw [trp_at (by rw [stayTab_len]; exact hk), stayTab_at hk]
    congr 1
    apply List.ext_getElem?
    intro j
    by_cases hj : j < n.length
    · rw [colAt_at (stayTab_at hj), stay_get hk, stayRow_at (List.getElem?_eq_getElem hj)]
      by_cases e : k = j
      · subst e; rfl
      · rw [if_neg (by omega), if_neg (by omega)]
    · rw [List.getElem?_eq_none (by rw [colAt_len, stayTab_len]; omega), List.getElem?_eq_none (by rw [stayRow_len]; omega)]
  · rw [List.getElem?_eq_none (by rw [trp_len, stayTab_len]; omega), List.getElem?_eq_none (by rw [stayTab_len]; omega)]
theorem stay_sum (n : List Int) : (stayTab n).map List.sum = n := by
  apply List.ext_getElem?
  intro k
  by_cases hk : k < n.length
  · rw [List.getElem?_map, stayTab_at hk, List.getElem?_eq_getElem hk]
    simp only [Option.map_some]
    congr 1
    unfold stayRow
    rw [sum_pick (fun j => n.getD j 0) k n.length, if_pos hk, getD_lt hk]
  · rw [List.getElem?_eq_none (by rw [List.length_map, stayTab_len]; omega), List.getElem?_eq_none (by omega)]
theorem stay_btw {n : List Int} (hb : ∀ x ∈ n, 0 ≤ x ∧ x ≤ 10 ^ 12) : Btw n n (stayTab n) := by
  refine ⟨stayTab_len n, fun r hr => ?_, fun r hr x hx => ?_, stay_sum n, ?_⟩
  · obtain ⟨i, _, rfl⟩ := List.mem_map.mp hr
    exact stayRow_len _ _
  · obtain ⟨i, _, rfl⟩ := List.mem_map.mp hr
    obtain ⟨j, hj, rfl⟩ := List.mem_map.mp hx
    have hj := List.mem_range.mp hj
    split
    · rw [getD_lt hj]; exact hb _ (List.getElem_mem hj)
    · decide
  · rw [← trp_sum, trp_stay, stay_sum]
theorem chg_stay {one : List (List Int)} (hb : ∀ r ∈ one, ∀ x ∈ r, 0 ≤ x ∧ x ≤ 10 ^ 12) : Chg one one (one.map stayTab) := by
  refine ⟨by simp, fun k n o tab hn ho ht => ?_⟩
  rw [List.getElem?_map, hn] at ht
  rw [hn] at ho
  cases ho
  cases ht
  exact stay_btw (hb n (List.mem_of_getElem? hn))
theorem stay_trp (one : List (List Int)) : (one.map stayTab).map trp = one.map stayTab := by
  rw [List.map_map]
  exact List.map_congr_left fun n _ => trp_stay n
/-! votes -/
theorem sum_flat : ∀ ls : List (List Int), ls.flatten.sum = (ls.map List.sum).sum
  | [] => rfl
  | l :: ls => by rw [List.flatten_cons, List.sum_append, List.map_cons, List.sum_cons, sum_flat ls]
theorem sum_addf (f g : Nat → Int) : ∀ n : Nat, ((List.range n).map fun i => f i + g i).sum = ((List.range n).map f).sum + ((List.range n).map g).sum
  | 0 => rfl
  | n + 1 => by
    rw [List.range_succ, List.map_append, List.map_append, List.map_append, List.sum_append, List.sum_append, List.sum_append, sum_addf f g n]
    simp only [List.map_cons, List.map_nil, List.sum_cons, List.sum_nil]
    omega
theorem sum_negf {f g : Nat → Int} : ∀ n : Nat, (∀ i, i < n → f i = - g i) → ((List.range n).map f).sum = - ((List.range n).map g).sum
  | 0, _ => rfl
  | n + 1, h => by
    rw [List.range_succ, List.map_append, List.map_append, List.sum_append, List.sum_append, sum_negf n (fun i hi => h i (by omega))]
    simp only [List.map_cons, List.map_nil, List.sum_cons, List.sum_nil]
    rw [h n (by omega)]
    omega
theorem sum_swap (f : Nat → Nat → Int) (m : Nat) : ∀ n : Nat, ((List.range n).map fun i => ((List.range m).map fun j => f i j).sum).sum = ((List.range m).map fun j => ((List.range n).map fun i => f i j).sum).sum
  | 0 => by
    show (0 : Int) = ((List.range m).map fun _ => (0 : Int)).sum
    symm
    exact sum_zero_of fun j hj => by
      rw [List.getD_eq_getElem?_getD, List.getElem?_map]
      cases (List.range m)[j]? <;> rfl
  | n + 1 => by
    rw [List.range_succ, List.map_append, List.sum_append, sum_swap f m n]
    simp only [List.map_cons, List.map_nil, List.sum_cons, List.sum_nil, Int.add_zero]
    rw [← sum_addf]
    congr 1
    refine List.map_congr_left fun j _ => ?_
    rw [List.map_append, List.sum_append]
    simp
def cell (t : List (List Int)) (i j : Nat) : Int := (t.getD i []).getD j 0
theorem row_getD {t : List (List Int)} {i : Nat} (h : i < t.length) : t.getD i [] = t[i] := by
  rw [List.getD_eq_getElem?_getD, List.getElem?_eq_getElem h]; rfl
theorem tab_sum {t : List (List Int)} (hs : ∀ r ∈ t, r.length = t.length) : (tabVotes t).flatten.sum = ((List.range t.length).map fun (i : Nat) => ((List.range t.length).map fun (j : Nat) => cell t i j * voteI (i : Int) (j : Int)).sum).sum := by
  rw [sum_flat]
  unfold tabVotes
  rw [List.map_map]
  congr 1
  refine List.map_congr_left fun i hi => ?_
  have hi := List.mem_range.mp hi
  show (rowVotes i (t.getD i [])).sum = _
  unfold rowVotes
  rw [row_getD hi, hs _ (List.getElem_mem hi)]
  congr 1
  refine List.map_congr_left fun j _ => ?_
  unfold cell
  rw [row_getD hi]
theorem cell_trp {t : List (List Int)} {i j : Nat} (hi : i < t.length) (hj : j < t.length) : cell (trp t) i j = cell t j i := by
  unfold cell
  have e : (trp t).getD i [] = colAt t i := by rw [List.getD_eq_getElem?_getD, trp_at hi]; rfl
  rw [e, List.getD_eq_getElem?_getD, colAt_at (List.getElem?_eq_getElem hj), row_getD hj]; rfl
theorem vote_anti (i j : Int) : voteI i j = - voteI j i := by
  unfold voteI
  by_cases h1 : j < i
  · rw [if_pos h1, if_neg (by omega), if_pos (by omega)]; rfl
  · by_cases h2 : i < j
    · rw [if_neg h1, if_pos (by omega), if_pos h2]
    · rw [if_neg h1, if_neg (by omega), if_neg h2, if_neg (by omega)]; rfl
theorem tab_trp {t : List (List Int)} (hs : ∀ r ∈ t, r.length = t.length) : (tabVotes (trp t)).flatten.sum = - (tabVotes t).flatten.sum := by
  have hs' : ∀ r ∈ trp t, r.length = (trp t).length := fun r hr => by
    obtain ⟨j, _, rfl⟩ := List.mem_map.mp hr
    rw [colAt_len, trp_len]
  rw [tab_sum hs', tab_sum hs, trp_len, sum_swap]
  refine sum_negf _ fun j hj => ?_
  refine sum_negf _ fun i hi => ?_
  rw [cell_trp hi hj, vote_anti, Int.mul_neg]
theorem votes_cons (t : List (List Int)) (tabs : List (List (List Int))) : (votesOf (t :: tabs)).sum = (tabVotes t).flatten.sum + (votesOf tabs).sum := by
  unfold votesOf
  rw [List.map_cons, List.flatten_cons, List.sum_append]
theorem votes_trp : ∀ {tabs : List (List (List Int))}, (∀ t ∈ tabs, Sqr t) → (votesOf (tabs.map trp)).sum = - (votesOf tabs).sum
  | [], _ => rfl
  | t :: tabs, h => by
    rw [List.map_cons, votes_cons, votes_cons, tab_trp (h t (by simp)).2.2, votes_trp (fun u hu => h u (by simp [hu]))]
    omega
theorem sum_lef {f g : Nat → Int} : ∀ n : Nat, (∀ i, i < n → - g i ≤ f i ∧ f i ≤ g i) → - ((List.range n).map g).sum ≤ ((List.range n).map f).sum ∧ ((List.range n).map f).sum ≤ ((List.range n).map g).sum
  | 0, _ => by simp
  | n + 1, h => by
    have ih := sum_lef n (fun i hi => h i (by omega))
    rw [List.range_succ, List.map_append, List.map_append, List.sum_append, List.sum_append]
    simp only [List.map_cons, List.map_nil, List.sum_cons, List.sum_nil]
    have := h n (by omega)
    omega
theorem vote_le {x : Int} (h : 0 ≤ x) (i j : Int) : - x ≤ x * voteI i j ∧ x * voteI i j ≤ x := by
  unfold voteI
  split
  · omega
  · split <;> omega
theorem range_self (l : List Int) : (List.range l.length).map (fun j => l.getD j 0) = l := by
  apply List.ext_getElem?
  intro k
  by_cases hk : k < l.length
  · simp [hk]
  · rw [List.getElem?_eq_none (by simp; omega), List.getElem?_eq_none (by omega)]
theorem rowV_le {row : List Int} (h : ∀ x ∈ row, 0 ≤ x) (i : Nat) : - row.sum ≤ (rowVotes i row).sum ∧ (rowVotes i row).sum ≤ row.sum := by
  have := sum_lef (f := fun (j : Nat) => row.getD j 0 * voteI (i : Int) (j : Int)) (g := fun j => row.getD j 0) row.length (fun j _ => vote_le (getD_nn h j) _ _)
  rw [range_self] at this
  exact this
theorem tabV_abs {t : List (List Int)} (h : ∀ r ∈ t, ∀ x ∈ r, 0 ≤ x) : - (t.map List.sum).sum ≤ (tabVotes t).flatten.sum ∧ (tabVotes t).flatten.sum ≤ (t.map List.sum).sum := by
  have e : t.map List.sum = (List.range t.length).map fun i => (t.getD i []).sum := by
    apply List.ext_getElem?
    intro k
    by_cases hk : k < t.length
    · simp [hk]
    · rw [List.getElem?_eq_none (by simp; omega), List.getElem?_eq_none (by simp; omega)]
  rw [sum_flat, e]
  unfold tabVotes
  rw [List.map_map]
  refine sum_lef _ fun i hi => ?_
  show - (t.getD i []).sum ≤ (rowVotes i (t.getD i [])).sum ∧ (rowVotes i (t.getD i [])).sum ≤ (t.getD i []).sum
  rw [row_getD hi]
  exact rowV_le (h _ (List.getElem_mem hi)) i
theorem votes_abs : ∀ {tabs : List (List (List Int))}, (∀ t ∈ tabs, ∀ r ∈ t, ∀ x ∈ r, 0 ≤ x) → - (tabs.map fun t => (t.map List.sum).sum).sum ≤ (votesOf tabs).sum ∧ (votesOf tabs).sum ≤ (tabs.map fun t => (t.map List.sum).sum).sum
  | [], _ => by simp [votesOf]
  | t :: tabs, h => by
    have h1 := tabV_abs (h t (by simp))
    have h2 := votes_abs (tabs := tabs) (fun u hu => h u (by simp [hu]))
    rw [votes_cons, List.map_cons, List.sum_cons]
    omega
theorem chg_counts {gs : List Gp} {one other : List (List Int)} {tabs : List (List (List Int))} (pl : other.length = one.length) (h : Chg one other tabs) (sh : one.length = gs.length) (um : ∀ (k : Nat) (g : Gp) (row : List Int), gs[k]? = some g → one[k]? = some row → row.sum = g.2) :
    (tabs.map fun t => (t.map List.sum).sum) = gs.map (fun g => g.2) := by
  have hl := h.1
  apply List.ext_getElem?
  intro k
  by_cases hk : k < tabs.length
  · have b := h.2 k _ _ _ (List.getElem?_eq_getElem (by omega)) (List.getElem?_eq_getElem (by omega)) (List.getElem?_eq_getElem hk)
    have hg : k < gs.length := by omega
    rw [List.getElem?_map, List.getElem?_map, List.getElem?_eq_getElem hk, List.getElem?_eq_getElem hg, Option.map_some, Option.map_some, b.sum]
    congr 1
    exact um k _ _ (List.getElem?_eq_getElem hg) (List.getElem?_eq_getElem (by omega))
  · rw [List.getElem?_eq_none (by rw [List.length_map]; omega), List.getElem?_eq_none (by rw [List.length_map]; omega)]
theorem chg_abs {gs : List Gp} {one other : List (List Int)} {tabs : List (List (List Int))} (pl : other.length = one.length) (h : Chg one other tabs) (sh : one.length = gs.length) (um : ∀ (k : Nat) (g : Gp) (row : List Int), gs[k]? = some g → one[k]? = some row → row.sum = g.2) :
    - (gs.map (fun g => g.2)).sum ≤ (votesOf tabs).sum ∧ (votesOf tabs).sum ≤ (gs.map (fun g => g.2)).sum := by
  rw [← chg_counts pl h sh um]
  refine votes_abs fun t ht r hr x hx => ?_
  obtain ⟨n, o, _, _, b⟩ := chg_at pl h ht
  exact (b.bd r hr x hx).1
theorem stay_votes {one : List (List Int)} (h : ∀ r ∈ one, 1 ≤ r.length ∧ r.length ≤ 7) : (votesOf (one.map stayTab)).sum = 0 := by
  have e := votes_trp (tabs := one.map stayTab) (by
    intro t ht
    obtain ⟨n, hn, rfl⟩ := List.mem_map.mp ht
    have := h n hn
    refine ⟨by rw [stayTab_len]; omega, by rw [stayTab_len]; omega, fun r hr => ?_⟩
    obtain ⟨i, _, rfl⟩ := List.mem_map.mp hr
    rw [stayRow_len, stayTab_len])
  rw [stay_trp] at e
  omega
end Pv

namespace Pv
open PySem PySem.Spec PyProof.Rows L2
abbrev sLa : Stmt := topS 37
theorem scLa : FnScope ["_law_script", "_law_state", "_law_turn", "_law_instance_here", "_law_one", "_law_other", "_law_change_here", "_law_still_here", "_law_kept", "_law_value"] ["_law_script"] (defScope sLa) := ⟨rfl, rfl, rfl, by decide +kernel, rfl, by decide +kernel, by decide +kernel⟩
theorem hu70 {k : Nat} {A : Around} (hr : Room k A) : A.units + 70 < cLine := by have := hr.un; omega
theorem InsOk.inR {cs : List Int} {gs : List Gp} (ok : InsOk cs gs) : InR cs.length gs := fun g hg => ⟨by have := (ok.gp g hg).1; omega, (ok.gp g hg).2.1⟩
abbrev BigM : Nat := 10 ^ 29
theorem nat_big {i : Int} (h : -2 ≤ i ∧ i ≤ 10 ^ 12 + 2) : i.natAbs ≤ BigM := by
  have : i.natAbs ≤ 10 ^ 12 + 2 := by omega
  exact Nat.le_trans this (by decide)
theorem fit_ins {cs : List Int} {gs : List Gp} (ok : InsOk cs gs) : Fit BigM 5 20000 (dInst cs gs) := by
  have h6 := ok.c6
  have h10 := ok.g10
  refine fit_dInst ⟨by omega, fun i hi => nat_big (by have := ok.cb i hi; omega)⟩ (by omega) (fun g hg => ?_)
  have := ok.gp g hg
  refine ⟨by omega, fun i hi => nat_big ?_, nat_big (by omega)⟩
  have := this.2.1 i hi
  omega
def Rws (rows : List (List Int)) : Prop := rows.length ≤ 10 ∧ ∀ r ∈ rows, 1 ≤ r.length ∧ r.length ≤ 7 ∧ ∀ x ∈ r, 0 ≤ x ∧ x ≤ 10 ^ 12
theorem fit_rws {rows : List (List Int)} (h : Rws rows) : Fit BigM 2 10000 (dAsg rows) :=
  fit_dAsg (fun row hr => ⟨by have := (h.2 row hr).2.1; omega, fun i hi => nat_big (by have := (h.2 row hr).2.2 i hi; omega)⟩) (by have := h.1; omega)
def Tbs (tabs : List (List (List Int))) : Prop := tabs.length ≤ 10 ∧ ∀ t ∈ tabs, t.length ≤ 7 ∧ ∀ r ∈ t, 1 ≤ r.length ∧ r.length ≤ 7 ∧ ∀ x ∈ r, 0 ≤ x ∧ x ≤ 10 ^ 12
theorem fit_tbs {tabs : List (List (List Int))} (h : Tbs tabs) : Fit BigM 3 25000 (dTabs tabs) := by
  have f1 : ∀ t ∈ tabs, Fit BigM 2 2100 (dAsg t) := fun t ht => by
    obtain ⟨h7, hr⟩ := h.2 t ht
    unfold dAsg
    refine Fit.tup ?_ (by decide) ?_
    · intro d hd
      obtain ⟨row, hrow, rfl⟩ := List.mem_map.mp hd
      have := fit_dI (M := BigM) (ns := row) (fun i hi => nat_big (by have := (hr row hrow).2.2 i hi; omega))
      exact ⟨this.ok, by have := this.dp; omega⟩
    · have := wtAll_le (W := 297) (ds := t.map dI) (by
        intro d hd
        obtain ⟨row, hrow, rfl⟩ := List.mem_map.mp hd
        have h1 := (fit_dI (M := BigM) (ns := row) (fun i hi => nat_big (by have := (hr row hrow).2.2 i hi; omega))).wt
        have := (hr row hrow).2.1
        omega)
      rw [List.length_map] at this
      omega
  unfold dTabs
  refine Fit.tup ?_ (by decide) ?_
  · intro d hd
    obtain ⟨t, ht, rfl⟩ := List.mem_map.mp hd
    exact ⟨(f1 t ht).ok, by have := (f1 t ht).dp; omega⟩
  · have := wtAll_le (W := 2100) (ds := tabs.map dAsg) (by
      intro d hd
      obtain ⟨t, ht, rfl⟩ := List.mem_map.mp hd
      exact (f1 t ht).wt)
    rw [List.length_map] at this
    have := h.1
    omega
theorem rws_of {cs : List Int} {gs : List Gp} {rows : List (List Int)} (ok : InsOk cs gs) (sh : Shp gs rows) (bd : Bd rows) : Rws rows := by
  have h10 := ok.g10
  refine ⟨by rw [sh.1]; omega, fun row hr => ?_⟩
  obtain ⟨i, hi, e⟩ := List.mem_iff_getElem.mp hr
  have hi' : i < gs.length := by rw [← sh.1]; exact hi
  have hg := List.getElem?_eq_getElem hi'
  have hl := sh.2 i gs[i] row hg (by rw [List.getElem?_eq_getElem hi, e])
  have := (ok.gp gs[i] (List.getElem_mem hi')).1
  exact ⟨by omega, by omega, bd row hr⟩
def Sums (gs : List Gp) (rows : List (List Int)) : Prop := ∀ (k : Nat) (g : Gp) (row : List Int), gs[k]? = some g → rows[k]? = some row → row.sum = g.2
theorem pair_of {gs : List Gp} {a b : List (List Int)} (sa : Shp gs a) (sb : Shp gs b) (ra : Rws a) (rb : Rws b) (ua : Sums gs a) (ub : Sums gs b) : Pair a b := by
  refine ⟨by rw [sa.1, sb.1], ra.1, fun k n o hn ho => ?_⟩
  have hk : k < gs.length := by have := (List.getElem?_eq_some_iff.mp hn).1; rw [sa.1] at this; exact this
  have hg := List.getElem?_eq_getElem hk
  have h1 := sa.2 k _ n hg hn
  have h2 := sb.2 k _ o hg ho
  have h3 := ra.2 n (List.mem_of_getElem? hn)
  have h4 := rb.2 o (List.mem_of_getElem? ho)
  exact ⟨h3.1, h3.2.1, by omega, h3.2.2, h4.2.2, by rw [ua k _ n hg hn, ub k _ o hg ho]⟩
theorem tbs_of {one other : List (List Int)} {tabs : List (List (List Int))} (pr : Pair one other) (h : Chg one other tabs) : Tbs tabs := by
  refine ⟨by rw [h.1]; exact pr.ten, fun t ht => ?_⟩
  obtain ⟨k, hk, e⟩ := List.mem_iff_getElem.mp ht
  have hk1 : k < one.length := by rw [← h.1]; exact hk
  have hk2 : k < other.length := by rw [pr.len]; exact hk1
  have b := h.2 k _ _ t (List.getElem?_eq_getElem hk1) (List.getElem?_eq_getElem hk2) (by rw [List.getElem?_eq_getElem hk, e])
  obtain ⟨p1, p2, _⟩ := pr.at_ k _ _ (List.getElem?_eq_getElem hk1) (List.getElem?_eq_getElem hk2)
  exact ⟨by rw [b.len]; exact p2, fun r hr => ⟨by rw [b.row r hr]; exact p1, by rw [b.row r hr]; exact p2, b.bd r hr⟩⟩
theorem fit_triple {M : Nat} (hM : M < 10 ^ 35) {k W : Nat} {a b c : PyData} (ha : Fit M k W a) (hb : Fit M k W b) (hc : Fit M k W c) (hk : k ≤ 50) (hW : W ≤ 1000000) :
    (PyData.list [a, b, c]).showable = true ∧ (PyData.list [a, b, c]).depth ≤ 60 ∧ (PyData.list [a, b, c]).shown.length ≤ sizeLine := by
  have h : Fit M (k + 1) (3 * W + 20) (.list [a, b, c]) := by
    refine Fit.lst ?_ (by omega) ?_
    · intro d hd
      simp only [List.mem_cons, List.not_mem_nil, or_false] at hd
      rcases hd with rfl | rfl | rfl
      · exact ⟨ha.ok, by have := ha.dp; omega⟩
      · exact ⟨hb.ok, by have := hb.dp; omega⟩
      · exact ⟨hc.ok, by have := hc.dp; omega⟩
    · have h1 := ha.wt
      have h2 := hb.wt
      have h3 := hc.wt
      simp only [wtAll]; omega
  obtain ⟨s1, s2⟩ := fit_ok hM h.ok
  refine ⟨s1, Nat.le_trans h.dp (by omega), Nat.le_trans s2 (Nat.le_trans h.wt ?_)⟩
  rw [sizeLine_eq]; omega
theorem fit_show {M : Nat} (hM : M < 10 ^ 35) {k W : Nat} {a : PyData} (ha : Fit M k W a) (hk : k ≤ 50) (hW : W ≤ 1000000) : a.showable = true ∧ a.depth ≤ 60 ∧ a.shown.length ≤ sizeLine := by
  obtain ⟨s1, s2⟩ := fit_ok hM ha.ok
  refine ⟨s1, Nat.le_trans ha.dp (by omega), Nat.le_trans s2 (Nat.le_trans ha.wt ?_)⟩
  rw [sizeLine_eq]; omega
theorem show_ints {a b : Int} (ha : a.natAbs ≤ 10 ^ 20) (hb : b.natAbs ≤ 10 ^ 20) : (PyData.list [.int a, .int b]).showable = true ∧ (PyData.list [.int a, .int b]).depth ≤ 60 ∧ (PyData.list [.int a, .int b]).shown.length ≤ sizeLine := by
  have h : Fit (10 ^ 20) 1 200 (.list [.int a, .int b]) := by
    refine Fit.lst ?_ (by decide) (by simp only [wtAll, wt]; omega)
    intro d hd
    simp only [List.mem_cons, List.not_mem_nil, or_false] at hd
    rcases hd with rfl | rfl
    · exact ⟨by simpa only [fit] using ha, by simp [PyData.depth]⟩
    · exact ⟨by simpa only [fit] using hb, by simp [PyData.depth]⟩
  exact fit_show (by decide) h (by decide) (by decide)
theorem tabsOf_dTabs (tabs : List (List (List Int))) : tabsOf (dTabs tabs) = tabs := by
  simp only [tabsOf, dTabs, List.map_map]
  conv => rhs; rw [← List.map_id tabs]
  exact List.map_congr_left fun t _ => tabRows_dAsg t
theorem shaped_dAsg (rows : List (List Int)) : SeqAt.shaped (dAsg rows) = true := by
  have h1 : ∀ ns : List Int, (dI ns).canLay0 = true ∧ (dI ns).depth ≤ 1 := fun ns => by
    refine ⟨?_, ?_⟩
    · simp only [dI, PyData.canLay0]
      induction ns with
      | nil => rfl
      | cons n ns ih => simp only [List.map_cons, PyData.canLayAll0, PyData.canLay0, ih, Bool.and_self]
    · simp only [dI, PyData.depth]
      have := (depthAll_le (k := 0) (xs := ns.map PyData.int)).mpr (by intro x hx; obtain ⟨n, _, rfl⟩ := List.mem_map.mp hx; simp [PyData.depth])
      omega
  have h2 : PyData.canLayAll0 (rows.map dI) = true := by
    induction rows with
    | nil => rfl
    | cons n ns ih => simp only [List.map_cons, PyData.canLayAll0, (h1 n).1, ih, Bool.and_self]
  have h3 := (depthAll_le (k := 1) (xs := rows.map dI)).mpr (by intro x hx; obtain ⟨n, _, rfl⟩ := List.mem_map.mp hx; exact (h1 n).2)
  simp only [SeqAt.shaped, dAsg, PyData.canLay0, h2, PyData.depth, Bool.true_and, decide_eq_true_eq]
  omega
theorem Lim.of {cs : List Int} {gs : List Gp} {asg : List (List Int)} (ok : InsOk cs gs) (h : Rws asg) : Lim cs gs asg := by
  have h6 := ok.c6
  have h10 := ok.g10
  have := h.1
  exact ⟨by omega, by omega, ok.inR, fun g hg => by have := (ok.gp g hg).1; omega, by omega, fun r hr => ⟨(h.2 r hr).1, (h.2 r hr).2.1⟩⟩
section
variable {P : Program} {w : World} {K : PySem.W.Frag} {mg : Str → Option Value} {base : Heap}
theorem bent7 {st c r : Addr} {t : Nat} {v : V} {d : PyData} {M k W : Nat} {H : Hp} {Q : VK} (h1 : DS H st c r t) (h2 : t + 70 ≤ 1000000) (h3 : Dq K st r H v d) (h4 : Fit M k W d) (h5 : 10 ^ 29 ≤ M) (h6 : W ≤ 100000) (h7 : d.depth ≤ 4)
    (h8 : ∀ (H' : Hp) (v' : V) (d' : PyData) (t' : Nat), DS H' st c r t' → t' ≤ t + 70 → Ext st r H H' → Dq K st r H' v' d' → Fit (M + 1) (k + 2) (2 * W + 100) d' → Q v' H') : spB K 7 [.ref st, v] H Q E0 :=
  ⟨st, c, r, t, v, d, M, k, W, rfl, h1, h2, h3, h4, h5, h6, Nat.add_le_add_right h7 2, fun H' v' d' t' a b c' d'' e => h8 H' v' d' t' a b c' d'' e⟩
def spLaw (K : PySem.W.Frag) : Sp := fun vs H Q _ => ∃ (a : Addr) (ns : List Int), vs = [.ref a] ∧ SqL K H a (ns.map V.int) ∧ ns.length ≤ 63 ∧ ∀ H', Q (.bl true) H'
set_option maxHeartbeats 8000000 in
theorem ok_La {f fSt fDr fIn fAs fCh fLS fSC fLT fCS fLV fBe fOd fIC : Addr} {fd fdSt fdDr fdIn fdAs fdCh fdLS fdSC fdLT fdCS fdLV fdBe fdOd fdIC : FuncData} (F : Fun K "law" "law" sLa f fd)
    (FSt : Fun K "_law_start" "_law_start" sStart fSt fdSt) (bSt : Binds K fdSt ["_law_script"] []) (gSt : mg "_law_start" = some (.ref fSt)) (GSt : FnOk P w K mg base CX0 1 fSt fdSt ["_law_script"] (spStart K))
    (FDr : Fun K "_law_draw" "_law_draw" sDraw fDr fdDr) (bDr : Binds K fdDr ["_law_state", "_law_below"] []) (gDr : mg "_law_draw" = some (.ref fDr)) (GDr : FnOk P w K mg base CX0 1 fDr fdDr ["_law_state", "_law_below"] spDraw)
    (FIn : Fun K "_law_instance" "_law_instance" sInst fIn fdIn) (bIn : Binds K fdIn ["_law_state", "_law_posts", "_law_groups", "_law_most"] []) (gIn : mg "_law_instance" = some (.ref fIn)) (GIn : FnOk P w K mg base CX0 2 fIn fdIn ["_law_state", "_law_posts", "_law_groups", "_law_most"] (spInst K))
    (FAs : Fun K "_law_assignment" "_law_assignment" sAsg fAs fdAs) (bAs : Binds K fdAs ["_law_state", "_law_instance_here"] []) (gAs : mg "_law_assignment" = some (.ref fAs)) (GAs : FnOk P w K mg base CX0 3 fAs fdAs ["_law_state", "_law_instance_here"] (spAsg K))
    (FCh : Fun K "_law_change" "_law_change" sCh fCh fdCh) (bCh : Binds K fdCh ["_law_state", "_law_one", "_law_other"] []) (gCh : mg "_law_change" = some (.ref fCh)) (GCh : FnOk P w K mg base CX0 4 fCh fdCh ["_law_state", "_law_one", "_law_other"] (spCh K))
    (FLS : Fun K "_law_still" "_law_still" sLS fLS fdLS) (bLS : Binds K fdLS ["_law_assignment_here"] []) (gLS : mg "_law_still" = some (.ref fLS)) (GLS : FnOk P w K mg base CX0 1 fLS fdLS ["_law_assignment_here"] (spLS K))
    (FSC : Fun K "stay_change" "stay_change" sSC fSC fdSC) (bSC : Binds K fdSC ["assignment"] []) (gSC : mg "stay_change" = some (.ref fSC)) (GSC : FnOk P w K mg base CX0 2 fSC fdSC ["assignment"] (spStC K))
    (FLT : Fun K "_law_told" "_law_told" sLT fLT fdLT) (bLT : Binds K fdLT ["_law_instance_here", "_law_assignment_here", "_law_value"] []) (gLT : mg "_law_told" = some (.ref fLT)) (GLT : FnOk P w K mg base CX0 8 fLT fdLT ["_law_instance_here", "_law_assignment_here", "_law_value"] (spLT K))
    (FCS : Fun K "change_surplus" "change_surplus" sCS fCS fdCS) (bCS : Binds K fdCS ["change"] []) (gCS : mg "change_surplus" = some (.ref fCS)) (GCS : FnOk P w K mg base CX0 2 fCS fdCS ["change"] (spSur K))
    (FLV : Fun K "_law_votes" "_law_votes" sLV fLV fdLV) (bLV : Binds K fdLV ["_law_change_here"] []) (gLV : mg "_law_votes" = some (.ref fLV)) (GLV : FnOk P w K mg base CX0 1 fLV fdLV ["_law_change_here"] (spLV K))
    (FBe : Fun K "_law_bent" "_law_bent" sBent fBe fdBe) (bBe : Binds K fdBe ["_law_state", "_law_value"] []) (gBe : mg "_law_bent" = some (.ref fBe)) (GBe : FnOk P w K mg base CX0 7 fBe fdBe ["_law_state", "_law_value"] (spB K 7))
    (FOd : Fun K "_law_odd" "_law_odd" sOdd fOd fdOd) (bOd : Binds K fdOd ["_law_state"] []) (gOd : mg "_law_odd" = some (.ref fOd)) (GOd : FnOk P w K mg base CX0 2 fOd fdOd ["_law_state"] (spOdd K))
    (FIC : Fun K "is_change" "is_change" sIC fIC fdIC) (bIC : Binds K fdIC ["instance", "assignment", "value"] []) (gIC : mg "is_change" = some (.ref fIC)) (GIC : FnOk P w K mg base CX0 5 fIC fdIC ["instance", "assignment", "value"] (spIsC K))
    (m_range : mg "range" = none) (m_repr : mg "repr" = none) (m_list : mg "list" = none) :
    FnG P w K mg base 9 f fd ["_law_script"] (spLaw K) := by
  refine okG F scLa (fun vs H Q E h => ?_) (fun cdv A outer s H vs Q E hgd hr h => ?_)
  · obtain ⟨a, ns, rfl, _⟩ := h; rfl
  · obtain ⟨a, ns, rfl, hS, hn, q⟩ := h
    have hu64 : (A.deeper (envOfC "law" (defScope sLa) s.heap.objs.size f cdv)).units + 64 < cLine := by have := hr.un; omega
    refine ⟨_, pss_cons (ps_set (i := 1) scLa.nd rfl (.inl rfl) (pe_call GSt (hr.mono (by omega)) (by rfl) gSt FSt.kp bSt .nil pass0 (pa_cons (pv 0) pa_nil)))
      (pss_cons (ps_for PassesOwn.never rfl (pi_range1 (by rfl) m_range (pa_cons (pe_int) pa_nil)) (pg_name (i := 2) scLa.nd rfl (.inl rfl))
        (pss_cons (ps_set (i := 3) scLa.nd rfl (.inl rfl) (pe_call GIn (hr.mono (by omega)) (by rfl) gIn FIn.kp bIn .nil pass0 (pa_cons (pv 1) (pa_cons (pe_int) (pa_cons (pe_int) (pa_cons (pe_ix ix_list (pe_lst (pa_cons (pe_int) (pa_cons (pe_int) (pa_cons (pe_op op_pow (pe_int) (pe_int)) pa_nil)))) (pe_call GDr (hr.mono (by omega)) (by rfl) gDr FDr.kp bDr .nil pass0 (pa_cons (pv 1) (pa_cons (pe_int) pa_nil))) (fun _ _ => rfl)) pa_nil))))))
        (pss_cons (ps_par (i := 4) (j := 5) rfl scLa.nd rfl rfl (by decide) rfl rfl (pa_cons (pe_call GAs (hr.mono (by omega)) (by rfl) gAs FAs.kp bAs .nil pass0 (pa_cons (pv 1) (pa_cons (pv 3) pa_nil))) (pa_cons (pe_call GAs (hr.mono (by omega)) (by rfl) gAs FAs.kp bAs .nil pass0 (pa_cons (pv 1) (pa_cons (pv 3) pa_nil))) pa_nil)) rfl)
        (pss_cons (ps_par (i := 6) (j := 7) rfl scLa.nd rfl rfl (by decide) rfl rfl (pa_cons (pe_call GCh (hr.mono (by omega)) (by rfl) gCh FCh.kp bCh .nil pass0 (pa_cons (pv 1) (pa_cons (pv 4) (pa_cons (pv 5) pa_nil)))) (pa_cons (pe_call GLS (hr.mono (by omega)) (by rfl) gLS FLS.kp bLS .nil pass0 (pa_cons (pv 4) pa_nil)) pa_nil)) rfl)
        (pss_cons (ps_set (i := 8) scLa.nd rfl (.inl rfl) (pe_callB (call_reprQ hgd (hu70 hr)) (by rfl) m_repr (by decide +kernel) (pa_cons (pe_lstS (pa_cons (pv 3) (pa_cons (pv 4) (pa_cons (pv 6) pa_nil)))) pa_nil)))
        (pss_cons (ps_if (PW.pt (pw_or (pt_cmpR op_ne (pe_callB (call_reprQ hgd (hu70 hr)) (by rfl) m_repr (by decide +kernel) (pa_cons (pe_call GSC (hr.mono (by omega)) (by rfl) gSC FSC.kp bSC .nil pass0 (pa_cons (pv 4) pa_nil)) pa_nil)) (pe_callB (call_reprQ hgd (hu70 hr)) (by rfl) m_repr (by decide +kernel) (pa_cons (pv 7) pa_nil)) (nomark _)) (pw_or1 (pt_cmpR op_ne (pe_callB (call_reprQ hgd (hu70 hr)) (by rfl) m_repr (by decide +kernel) (pa_cons (pe_call GLT (hr.mono (by omega)) (by rfl) gLT FLT.kp bLT .nil pass0 (pa_cons (pv 3) (pa_cons (pv 4) (pa_cons (pv 7) pa_nil)))) pa_nil)) (pe_callB (call_reprQ hgd (hu70 hr)) (by rfl) m_repr (by decide +kernel) (pa_cons (pv 4) pa_nil)) (nomark _)))))
          (pss_one (ps_ret (pe_bl))) pss_nil)
        (pss_cons (ps_if (pt_cmpR op_ne (pe_callB (call_reprQ hgd (hu70 hr)) (by rfl) m_repr (by decide +kernel) (pa_cons (pe_call GLT (hr.mono (by omega)) (by rfl) gLT FLT.kp bLT .nil pass0 (pa_cons (pv 3) (pa_cons (pv 4) (pa_cons (pv 6) pa_nil)))) pa_nil)) (pe_callB (call_reprQ hgd (hu70 hr)) (by rfl) m_repr (by decide +kernel) (pa_cons (pv 5) pa_nil)) (nomark _))
          (pss_one (ps_ret (pe_bl))) pss_nil)
        (pss_cons (ps_if (pt_cmpR op_ne (pe_callB (call_reprQ hgd (hu70 hr)) (by rfl) m_repr (by decide +kernel) (pa_cons (pe_lstS (pa_cons (pe_call GCS (hr.mono (by omega)) (by rfl) gCS FCS.kp bCS .nil pass0 (pa_cons (pv 6) pa_nil)) (pa_cons (pe_call GCS (hr.mono (by omega)) (by rfl) gCS FCS.kp bCS .nil pass0 (pa_cons (pv 7) pa_nil)) pa_nil))) pa_nil)) (pe_callB (call_reprQ hgd (hu70 hr)) (by rfl) m_repr (by decide +kernel) (pa_cons (pe_lstS (pa_cons (pe_call GLV (hr.mono (by omega)) (by rfl) gLV FLV.kp bLV .nil pass0 (pa_cons (pv 6) pa_nil)) (pa_cons (pe_int) pa_nil))) pa_nil)) (nomark _))
          (pss_one (ps_ret (pe_bl))) pss_nil)
        (pss_cons (ps_for PassesOwn.never rfl (pi_list (pe_lst (pa_cons (pe_call GBe (hr.mono (by omega)) (by rfl) gBe FBe.kp bBe .nil pass0 (pa_cons (pv 1) (pa_cons (pv 6) pa_nil))) (pa_cons (pe_call GBe (hr.mono (by omega)) (by rfl) gBe FBe.kp bBe .nil pass0 (pa_cons (pv 1) (pa_cons (pv 7) pa_nil))) (pa_cons (pe_call GOd (hr.mono (by omega)) (by rfl) gOd FOd.kp bOd .nil pass0 (pa_cons (pv 1) pa_nil)) (pa_cons (pe_callTy call_listS (by rfl) m_list (by decide +kernel) (pa_cons (pv 6) pa_nil)) (pa_cons (pv 4) pa_nil))))))) (pg_name (i := 9) scLa.nd rfl (.inl rfl))
          (pss_one (ps_if (pt_cmpR op_eq (pe_cmpR (op_eqD hu64) (pe_call GLT (hr.mono (by omega)) (by rfl) gLT FLT.kp bLT .nil pass0 (pa_cons (pv 3) (pa_cons (pv 4) (pa_cons (pv 9) pa_nil)))) (pe_str) (nomark _)) (pe_call GIC (hr.mono (by omega)) (by rfl) gIC FIC.kp bIC .nil pass0 (pa_cons (pv 3) (pa_cons (pv 4) (pa_cons (pv 9) pa_nil)))) (nomark _))
            (pss_one (ps_ret (pe_bl))) pss_nil)))
        (pss_one (ps_if (pt_cmpR op_ne (pe_callB (call_reprQ hgd (hu70 hr)) (by rfl) m_repr (by decide +kernel) (pa_cons (pe_lstS (pa_cons (pv 3) (pa_cons (pv 4) (pa_cons (pv 6) pa_nil)))) pa_nil)) (pv 8) (nomark _))
          (pss_one (ps_ret (pe_bl))) pss_nil)))))))))))
      (pss_one (ps_ret (pe_bl)))), ?_⟩
    refine ⟨.ref a, rfl, a, ns, rfl, hS, hn, fun H1 st c r s1 D1 => ?_⟩
    refine ⟨5, rfl, by decide, by decide, for_it (walk_range (lo := 0) (n := (5 : Int).toNat))
      (fun i σ H2 => ∃ (y2 y3 y4 y5 y6 y7 y8 y9 : Option V) (t2 : Nat), σ = [some (.ref a), some (.ref st), y2, y3, y4, y5, y6, y7, y8, y9] ∧ DS H2 st c r t2 ∧ t2 ≤ 2000 * i)
      ⟨none, none, none, none, none, none, none, none, 0, rfl, D1, by omega⟩ (fun _ _ _ _ _ => trivial) ?_ (fun σ H2 _ => q _)⟩
    rintro i v σ H2 H2' hlt ⟨y2, y3, y4, y5, y6, y7, y8, y9, t2, rfl, d2, ht2⟩ ⟨rfl, rfl⟩
    have hi5 : i < 5 := hlt
    -- the instance
    refine ⟨.ref st, rfl, _, _, rfl, rfl, ⟨by decide, by decide, by decide⟩, (show (3 : Nat) ≤ sizeLine by decide), fun L nL => ⟨.ref st, rfl, st, c, r, t2, _, rfl, d2.new nL, by omega, by decide, by decide, fun H3 d h0 h1 D3 X3 => ?_⟩⟩
    have oL := d2.off nL
    have eL := X3 L _ upd_same oL.1 oL.2.2
    obtain ⟨m, hm, hm1, hm2⟩ : ∃ m : Int, atI [V.int 2, V.int 9, V.int ((10 : Int) ^ (12 : Int).toNat)] d = some (.int m) ∧ 1 ≤ m ∧ m ≤ 10 ^ 12 := by
      obtain h | h | h : d = 0 ∨ d = 1 ∨ d = 2 := by omega
      · exact ⟨2, by rw [h]; rfl, by decide, by decide⟩
      · exact ⟨9, by rw [h]; rfl, by decide, by decide⟩
      · exact ⟨10 ^ 12, by rw [h]; rfl, by decide, by decide⟩
    refine ⟨L, _, _, _, rfl, rfl, SqL.of eL, hm, st, c, r, t2 + 1, 6, 8, m, rfl, D3, by omega, ⟨by decide, by decide, by decide, by decide⟩, hm1, hm2, fun H4 I t4 cs gs D4 ht4 X4 hI ok => ?_⟩
    have h6 := ok.c6
    have h10 := ok.g10
    have fI := fit_ins ok
    -- two assignments
    refine ⟨.ref st, rfl, .ref I, rfl, st, c, r, I, t4, cs, gs, rfl, D4, by omega, hI, ok, fun H5 g1 t5 ra D5 ht5 X5 hG1 sh1 bd1 um1 hd1 => ?_⟩
    have rw1 := rws_of ok sh1 bd1
    have hI5 := (X5.tup D4).dp _ _ (to_dInst _ _) hI
    refine ⟨.ref st, rfl, .ref I, rfl, st, c, r, I, t5, cs, gs, rfl, D5, by omega, hI5, ok, fun H6 g2 t6 rb D6 ht6 X6 hG2 sh2 bd2 um2 hd2 => ⟨_, _, rfl, ?_⟩⟩
    have rw2 := rws_of ok sh2 bd2
    have tk56 := X6.tup D5
    have hG16 := tk56.dp _ _ (to_dAsg _) hG1
    have hI6 := tk56.dp _ _ (to_dInst _ _) hI5
    have p12 := pair_of sh1 sh2 rw1 rw2 um1 um2
    have p11 := pair_of sh1 sh1 rw1 rw1 um1 um1
    -- a change, and the one in which nobody moves
    refine ⟨.ref st, rfl, .ref g1, rfl, .ref g2, rfl, st, c, r, g1, g2, t6, ra, rb, rfl, D6, by omega, hG16, hG2, p12, fun H7 gd t7 tg D7 ht7 X7 hGd cg => ?_⟩
    have tk67 := X7.tup D6
    have hG17 := tk67.dp _ _ (to_dAsg _) hG16
    have hG27 := tk67.dp _ _ (to_dAsg _) hG2
    have hI7 := tk67.dp _ _ (to_dInst _ _) hI6
    have hten := rw1.1
    have lr1 : ∀ r ∈ ra, 1 ≤ r.length ∧ r.length ≤ 7 := fun r hr => ⟨(rw1.2 r hr).1, (rw1.2 r hr).2.1⟩
    refine ⟨.ref g1, rfl, g1, ra, rfl, hG17, by omega, (fun r hr => by have := lr1 r hr; omega), fun H8 sl s8 hsl => ⟨_, _, rfl, ?_⟩⟩
    have tk8 := TupK.of s8
    have D8 := D7.same s8
    have hG18 := tk8.dp _ _ (to_dAsg _) hG17
    have hG28 := tk8.dp _ _ (to_dAsg _) hG27
    have hI8 := tk8.dp _ _ (to_dInst _ _) hI7
    have hGd8 := tk8.dp _ _ (to_dTabs _) hGd
    have cgs := chg_stay (fun r hr => (rw1.2 r hr).2.2)
    have pl := p12.len
    have l1 := cg.1
    have lS := cgs.1
    have sq1 := chg_sqr pl cg lr1
    have sqS := chg_sqr rfl cgs lr1
    have fT := fit_tbs (tbs_of p12 cg)
    have fS := fit_tbs (tbs_of p11 cgs)
    have lim := Lim.of ok rw1
    have s3 := fit_triple (by decide) (fI.mono (Nat.le_refl _) (by decide : 5 ≤ 5) (by decide : 20000 ≤ 25000)) ((fit_rws rw1).mono (Nat.le_refl _) (by decide : 2 ≤ 5) (by decide : 10000 ≤ 25000)) (fT.mono (Nat.le_refl _) (by decide : 3 ≤ 5) (by decide : 25000 ≤ 25000)) (by decide) (by decide)
    have sS := fit_show (by decide) fS (by decide) (by decide)
    have sR1 := fit_show (by decide) (fit_rws rw1) (by decide) (by decide)
    have sR2 := fit_show (by decide) (fit_rws rw2) (by decide) (by decide)
    have cT := chg_true pl cg hd2
    have cS := chg_true rfl cgs hd1
    have rT := chg_res pl cg
    have rS := chg_res rfl cgs
    clear hG17 hG27 hI7 hG16 hG2 hI6 hI5 hG1 hI X7 X6 X5 X4 X3 D7 D6 D5 D4 D3 tk56 tk67 tk8 hGd
    -- kept
    refine ⟨.ref I, rfl, .ref g1, rfl, .ref gd, rfl, (show (3 : Nat) ≤ sizeLine by decide), fun Ka nKa mKa => ?_⟩
    obtain ⟨oa1, oa2, oa3⟩ := D8.off nKa
    have sK := sameNew (o := .lst [.ref I, .ref g1, .ref gd]) nKa
    have tkK := TupK.of sK
    refine ⟨Ka, .list [dInst cs gs, dAsg ra, dTabs tg], st, r, rfl, .lst upd_same oa1 oa3 mKa (.cons (Dq.of_dp (to_dInst _ _) (tkK.dp _ _ (to_dInst _ _) hI8)) (.cons (Dq.of_dp (to_dAsg _) (tkK.dp _ _ (to_dAsg _) hG18)) (.cons (Dq.of_dp (to_dTabs _) (tkK.dp _ _ (to_dTabs _) hGd8)) .nil))), s3.1, s3.2.1, s3.2.2, ?_⟩
    generalize eK : upd H8 Ka (.lst [.ref I, .ref g1, .ref gd]) = H9 at *
    have hI9 := tkK.dp _ _ (to_dInst _ _) hI8
    have hG19 := tkK.dp _ _ (to_dAsg _) hG18
    have hG29 := tkK.dp _ _ (to_dAsg _) hG28
    have hGd9 := tkK.dp _ _ (to_dTabs _) hGd8
    have hsl9 := tkK.dp _ _ (to_dTabs _) hsl
    have D9 := D8.same sK
    clear hI8 hG18 hG28 hGd8 hsl
    -- stay_change
    refine ⟨.ref g1, rfl, g1, ra, rfl, hG19, by omega, (fun r hr => by have := lr1 r hr; omega), fun H10 sc s10 hsc => ?_⟩
    have tk10 := TupK.of s10
    refine ⟨sc, dTabs (ra.map stayTab), st, r, rfl, Dq.of_dp (to_dTabs _) hsc, sS.1, sS.2.1, sS.2.2, ?_⟩
    refine ⟨.ref sl, rfl, sl, dTabs (ra.map stayTab), st, r, rfl, Dq.of_dp (to_dTabs _) (tk10.dp _ _ (to_dTabs _) hsl9), sS.1, sS.2.1, sS.2.2, rfl, _, rfl, ?_⟩
    refine iteF' (by simp) ?_
    -- told of the one in which nobody moves
    refine ⟨.ref I, rfl, .ref g1, rfl, .ref sl, rfl, st, r, I, g1, .ref sl, cs, gs, ra, dTabs (ra.map stayTab), rfl, tk10.dp _ _ (to_dInst _ _) hI9, tk10.dp _ _ (to_dAsg _) hG19, Dq.of_dp (to_dTabs _) (tk10.dp _ _ (to_dTabs _) hsl9), lim, fun H11 s11 => ⟨fun z => absurd (cS.symm.trans z) (by decide), fun _ pa hpa => ?_⟩⟩
    rw [tabsOf_dTabs, rS] at hpa
    have s911 := s10.trans s11
    have tk11 := TupK.of s911
    refine ⟨pa, dAsg ra, st, r, rfl, Dq.of_dp (to_dAsg _) hpa, sR1.1, sR1.2.1, sR1.2.2, .ref g1, rfl, g1, dAsg ra, st, r, rfl, Dq.of_dp (to_dAsg _) (tk11.dp _ _ (to_dAsg _) hG19), sR1.1, sR1.2.1, sR1.2.2, rfl, _, rfl, ?_⟩
    refine iteF' (by simp) ?_
    -- told of the change
    refine ⟨.ref I, rfl, .ref g1, rfl, .ref gd, rfl, st, r, I, g1, .ref gd, cs, gs, ra, dTabs tg, rfl, tk11.dp _ _ (to_dInst _ _) hI9, tk11.dp _ _ (to_dAsg _) hG19, Dq.of_dp (to_dTabs _) (tk11.dp _ _ (to_dTabs _) hGd9), lim, fun H12 s12 => ⟨fun z => absurd (cT.symm.trans z) (by decide), fun _ pb hpb => ?_⟩⟩
    rw [tabsOf_dTabs, rT] at hpb
    have s912 := s911.trans s12
    have tk12 := TupK.of s912
    refine ⟨pb, dAsg rb, st, r, rfl, Dq.of_dp (to_dAsg _) hpb, sR2.1, sR2.2.1, sR2.2.2, .ref g2, rfl, g2, dAsg rb, st, r, rfl, Dq.of_dp (to_dAsg _) (tk12.dp _ _ (to_dAsg _) hG29), sR2.1, sR2.2.1, sR2.2.2, rfl, _, rfl, ?_⟩
    refine iteF' (by simp) ?_
    -- surpluses
    have hab := chg_abs pl cg sh1.1 um1
    have hcn : (gs.map (fun g => g.2)).sum ≤ 10 ^ 14 := by
      have : ∀ l : List Gp, (∀ g ∈ l, g.2 ≤ 10 ^ 12) → (l.map (fun g => g.2)).sum ≤ l.length * 10 ^ 12 := by
        intro l
        induction l with
        | nil => intro _; simp
        | cons g l ih =>
          intro h
          have h1 := h g (by simp)
          have h2 := ih (fun g' hg => h g' (by simp [hg]))
          simp only [List.map_cons, List.sum_cons, List.length_cons]
          omega
      have := this gs (fun g hg => (ok.gp g hg).2.2.2)
      omega
    have hvb : (votesOf tg).sum.natAbs ≤ 10 ^ 20 := by omega
    have hv0 := stay_votes lr1
    have sI := show_ints hvb (show (0 : Int).natAbs ≤ 10 ^ 20 by decide)
    refine ⟨.ref gd, rfl, gd, tg, rfl, tk12.dp _ _ (to_dTabs _) hGd9, by omega, sq1, fun H13 s13 => ?_⟩
    have s913 := s912.trans s13
    refine ⟨.ref sl, rfl, sl, ra.map stayTab, rfl, (TupK.of s913).dp _ _ (to_dTabs _) hsl9, by omega, sqS, fun H14 s14 => ⟨(show (2 : Nat) ≤ sizeLine by decide), fun La nLa mLa => ?_⟩⟩
    have s914 := s913.trans s14
    obtain ⟨ol1, ol2, ol3⟩ := (D9.same s914).off nLa
    rw [hv0]
    refine ⟨La, .list [.int (votesOf tg).sum, .int 0], st, r, rfl, .lst upd_same ol1 ol3 mLa (.cons (.int _) (.cons (.int _) .nil)), sI.1, sI.2.1, sI.2.2, ?_⟩
    have s915 := s914.trans (sameNew (o := .lst [.int (votesOf tg).sum, .int 0]) nLa)
    generalize upd H14 La (.lst [.int (votesOf tg).sum, .int 0]) = H15 at s915
    refine ⟨.ref gd, rfl, gd, tg, rfl, (TupK.of s915).dp _ _ (to_dTabs _) hGd9, by omega, sq1, fun H16 s16 => ⟨(show (2 : Nat) ≤ sizeLine by decide), fun Lb nLb mLb => ?_⟩⟩
    have s916 := s915.trans s16
    obtain ⟨om1, om2, om3⟩ := (D9.same s916).off nLb
    refine ⟨Lb, .list [.int (votesOf tg).sum, .int 0], st, r, rfl, .lst upd_same om1 om3 mLb (.cons (.int _) (.cons (.int _) .nil)), sI.1, sI.2.1, sI.2.2, rfl, _, rfl, ?_⟩
    refine iteF' (by simp) ?_
    have s917 := s916.trans (sameNew (o := .lst [.int (votesOf tg).sum, .int 0]) nLb)
    generalize upd H16 Lb (.lst [.int (votesOf tg).sum, .int 0]) = H17 at s917
    have D17 := D9.same s917
    have tk17 := TupK.of s917
    have hI17 := tk17.dp _ _ (to_dInst _ _) hI9
    have hG117 := tk17.dp _ _ (to_dAsg _) hG19
    have hGd17 := tk17.dp _ _ (to_dTabs _) hGd9
    have hsl17 := tk17.dp _ _ (to_dTabs _) hsl9
    clear s917 tk17 s916 s915 s914 s913 s912 s911 tk12 tk11 hI9 hG19 hGd9 hsl9 hG29 D9 D8 sK tkK tk10 hpa hpb hsc
    -- the five values
    refine ⟨.ref st, rfl, .ref gd, rfl, bent7 D17 (by omega) (Dq.of_dp (to_dTabs _) hGd17) fT (Nat.le_refl _) (by omega) (by have := fT.dp; omega) (fun Ha va da ta Da hta Xa hva fva => ?_)⟩
    have La' := Lasts.ext D17 Xa
    refine ⟨.ref st, rfl, .ref sl, rfl, bent7 Da (by omega) (Dq.of_dp (to_dTabs _) (La'.tk.dp _ _ (to_dTabs _) hsl17)) fS (Nat.le_refl _) (by omega) (by have := fS.dp; omega) (fun Hb vb db tb Db htb Xb hvb' fvb => ?_)⟩
    have Lb' := Lasts.ext Da Xb
    refine ⟨.ref st, rfl, st, c, r, tb, rfl, Db, by omega, fun Hc vc dc Dc Xc hvc fvc => ?_⟩
    have Lc' := Lasts.ext Db Xc
    have LL := (La'.trans Lb').trans Lc'
    have hGdc := LL.tk.dp _ _ (to_dTabs _) hGd17
    have hGdc0 := hGdc
    cases hGdc with
    | @tup _ ys _ hgq hys =>
    refine ⟨.ref gd, rfl, gd, ys, rfl, hgq, fun L9 n9 m9 => ⟨.ref g1, rfl, (show (5 : Nat) ≤ sizeLine by decide), fun V0 nV => ?_⟩⟩
    obtain ⟨o9a, _, o9b⟩ := Dc.off n9
    have s9 := sameNew (o := .lst ys) n9
    have sV := sameNew (o := .lst [va, vb, vc, .ref L9, .ref g1]) nV
    have s10V := s9.trans sV
    have LV : Lasts st r Hc (upd (upd Hc L9 (.lst ys)) V0 (.lst [va, vb, vc, .ref L9, .ref g1])) := .of s10V
    have h9q : Dq K st r (upd (upd Hc L9 (.lst ys)) V0 (.lst [va, vb, vc, .ref L9, .ref g1])) (.ref L9) (.list (tg.map dAsg)) := .lst (sV _ _ upd_same) o9a o9b m9 ((DqAll.of_dp (to_tabs _) hys).lasts LV)
    have hall : DqAll K st r (upd (upd Hc L9 (.lst ys)) V0 (.lst [va, vb, vc, .ref L9, .ref g1])) [va, vb, vc, .ref L9, .ref g1] [da, db, dc, .list (tg.map dAsg), dAsg ra] :=
      .cons ((hva.lasts (Lb'.trans Lc')).lasts LV) (.cons ((hvb'.lasts Lc').lasts LV) (.cons (hvc.lasts LV) (.cons h9q (.cons ((Dq.of_dp (to_dAsg _) (LL.tk.dp _ _ (to_dAsg _) hG117)).lasts LV) .nil))))
    have DV := Dc.same s10V
    have LLV := LL.trans LV
    generalize eV : upd (upd Hc L9 (.lst ys)) V0 (.lst [va, vb, vc, .ref L9, .ref g1]) = HV at *
    have hV0 : HV V0 = some (.lst [va, vb, vc, .ref L9, .ref g1]) := by rw [← eV]; exact upd_same
    refine ⟨V0, rfl, ⟨_, SqL.of hV0⟩, for_it (walk_list (K := K) (a := V0) (xs := [va, vb, vc, .ref L9, .ref g1]))
      (fun j σ Hx => ∃ (z9 : Option V), σ = [some (.ref a), some (.ref st), some (.int (0 + (i : Nat))), some (.ref I), some (.ref g1), some (.ref g2), some (.ref gd), some (.ref sl), some (.str (PyData.list [dInst cs gs, dAsg ra, dTabs tg]).shown), z9] ∧ Same HV Hx)
      ⟨_, rfl, Same.refl _⟩ (fun j σ Hx _ h => by obtain ⟨_, _, sx⟩ := h; exact SqL.of (sx _ _ hV0)) ?_ ?_⟩
    · rintro j v σ Hx Hx' hltj ⟨z9, rfl, sx⟩ ⟨rfl, hvj⟩
      obtain ⟨d, hd, hvd⟩ := DqAll.at hall hvj
      have lx := LLV.tk.trans (TupK.of sx)
      have hvx := hvd.lasts (.of sx)
      refine ⟨.ref I, rfl, .ref g1, rfl, v, rfl, st, r, I, g1, v, cs, gs, ra, d, rfl, lx.dp _ _ (to_dInst _ _) hI17, lx.dp _ _ (to_dAsg _) hG117, hvx, lim, fun Hy sy => ?_⟩
      have sxy := sx.trans sy
      have ly := LLV.tk.trans (TupK.of sxy)
      have hvy := hvd.lasts (.of sxy)
      refine ⟨fun hc => ?_, fun hc p hp => ?_⟩
      · refine ⟨.str "no change", .str "no change", .str _, .str _, by decide +kernel, by decide +kernel, ?_⟩
        refine ⟨.ref I, rfl, .ref g1, rfl, v, rfl, st, r, I, g1, v, cs, gs, ra, d, rfl, ly.dp _ _ (to_dInst _ _) hI17, ly.dp _ _ (to_dAsg _) hG117, hvy, lim.1, lim.2.1, lim.2.2.1, lim.2.2.2.1, lim.2.2.2.2.1, lim.2.2.2.2.2, fun Hz sz => ?_⟩
        rw [hc]
        exact ⟨rfl, _, rfl, iteF' (by decide) ⟨_, rfl, sxy.trans sz⟩⟩
      · refine ⟨_, .str "no change", hp, .str _, shaped_dAsg _, by decide +kernel, ?_⟩
        refine ⟨.ref I, rfl, .ref g1, rfl, v, rfl, st, r, I, g1, v, cs, gs, ra, d, rfl, ly.dp _ _ (to_dInst _ _) hI17, ly.dp _ _ (to_dAsg _) hG117, hvy, lim.1, lim.2.1, lim.2.2.1, lim.2.2.2.1, lim.2.2.2.2.1, lim.2.2.2.2.2, fun Hz sz => ?_⟩
        rw [hc]
        exact ⟨rfl, _, rfl, iteF' (by simp only [dAsg, PyData.eqv]; decide) ⟨_, rfl, sxy.trans sz⟩⟩
    · rintro σ Hx ⟨z9, rfl, sx⟩
      have lx := LLV.tk.trans (TupK.of sx)
      have Dx := DV.same sx
      refine ⟨.ref I, rfl, .ref g1, rfl, .ref gd, rfl, (show (3 : Nat) ≤ sizeLine by decide), fun Kb nKb mKb => ?_⟩
      obtain ⟨ob1, ob2, ob3⟩ := Dx.off nKb
      have sK := sameNew (o := .lst [.ref I, .ref g1, .ref gd]) nKb
      have tkK := lx.trans (TupK.of sK)
      refine ⟨Kb, .list [dInst cs gs, dAsg ra, dTabs tg], st, r, rfl, .lst upd_same ob1 ob3 mKb (.cons (Dq.of_dp (to_dInst _ _) (tkK.dp _ _ (to_dInst _ _) hI17)) (.cons (Dq.of_dp (to_dAsg _) (tkK.dp _ _ (to_dAsg _) hG117)) (.cons (Dq.of_dp (to_dTabs _) (tkK.dp _ _ (to_dTabs _) hGd17)) .nil))), s3.1, s3.2.1, s3.2.2, _, rfl, rfl, _, rfl, ?_⟩
      exact iteF' (by simp) ⟨_, _, _, _, _, _, _, _, tb + 1, rfl, Dx.same sK, by omega⟩
end
end Pv

namespace Pv
open PySem PySem.Spec PyProof.Rows L2
/-! what the top has left -/
theorem all_mk {l : PySem.W.OpenLaw} {w : World} {K : PySem.W.Frag} {h : Heap} {mg : Str → Option Value} {fa fWh fWi fTo fSp fIA fLo fIC fTa fTR fCR fVo fCS fSC fSR fSt fDr fIn fFa fAs fOd fBe fBt fOr fCh fLV fLT fLS fLa : Addr} (X : K.In h) (G : h.Ns mainGlobals mg) (hfa : mg "law" = some (.ref fa))
    {odWh anWh odWi anWi odTo anTo odSp anSp odIA anIA odLo anLo odIC anIC odTa anTa odTR anTR odCR anCR odVo anVo odCS anCS odSC anSC odSR anSR odSt anSt odDr anDr odIn anIn odFa anFa odAs anAs odOd anOd odBe anBe odBt anBt odOr anOr odCh anCh odLV anLV odLT anLT odLS anLS odLa anLa : Option Addr} {slWh slWi slTo slSp slIA slLo slIC slTa slTR slCR slVo slCS slSC slSR slSt slDr slIn slFa slAs slOd slBe slBt slOr slCh slLV slLT slLS slLa : Array (Option Value)}
    {ocWh kVWh dcWh pmWh cdWh ctWh ocWi kVWi dcWi pmWi cdWi ctWi ocTo kVTo dcTo pmTo cdTo ctTo ocSp kVSp dcSp pmSp cdSp ctSp ocIA kVIA dcIA pmIA cdIA ctIA ocLo kVLo dcLo pmLo cdLo ctLo ocIC kVIC dcIC pmIC cdIC ctIC ocTa kVTa dcTa pmTa cdTa ctTa ocTR kVTR dcTR pmTR cdTR ctTR ocCR kVCR dcCR pmCR cdCR ctCR ocVo kVVo dcVo pmVo cdVo ctVo ocCS kVCS dcCS pmCS cdCS ctCS ocSC kVSC dcSC pmSC cdSC ctSC ocSR kVSR dcSR pmSR cdSR ctSR ocSt kVSt dcSt pmSt cdSt ctSt ocDr kVDr dcDr pmDr cdDr ctDr ocIn kVIn dcIn pmIn cdIn ctIn ocFa kVFa dcFa pmFa cdFa ctFa ocAs kVAs dcAs pmAs cdAs ctAs ocOd kVOd dcOd pmOd cdOd ctOd ocBe kVBe dcBe pmBe cdBe ctBe ocBt kVBt dcBt pmBt cdBt ctBt ocOr kVOr dcOr pmOr cdOr ctOr ocCh kVCh dcCh pmCh cdCh ctCh ocLV kVLV dcLV pmLV cdLV ctLV ocLT kVLT dcLT pmLT cdLT ctLT ocLS kVLS dcLS pmLS cdLS ctLS ocLa kVLa dcLa pmLa cdLa ctLa : Value}
    (aWh : PySem.W.nsIn K mainGlobals "is_whole" = some (some (.ref fWh))) (lWh : K.lookup fWh = some ⟨ocWh, odWh, .func (PySem.W.fnOf "is_whole" "is_whole" (defArgs sWhole) (defBody sWhole) (defScope sWhole) .none kVWh dcWh pmWh anWh cdWh ctWh), slWh⟩)
      (cWh : PySem.W.codeIn K cdWh "is_whole" = true) (kWh : PySem.W.keepIn K (.ref fWh) = true)
    (aWi : PySem.W.nsIn K mainGlobals "is_within" = some (some (.ref fWi))) (lWi : K.lookup fWi = some ⟨ocWi, odWi, .func (PySem.W.fnOf "is_within" "is_within" (defArgs sWithin) (defBody sWithin) (defScope sWithin) .none kVWi dcWi pmWi anWi cdWi ctWi), slWi⟩)
      (cWi : PySem.W.codeIn K cdWi "is_within" = true) (kWi : PySem.W.keepIn K (.ref fWi) = true)
    (aTo : PySem.W.nsIn K mainGlobals "is_tuple_of" = some (some (.ref fTo))) (lTo : K.lookup fTo = some ⟨ocTo, odTo, .func (PySem.W.fnOf "is_tuple_of" "is_tuple_of" (defArgs sTupOf) (defBody sTupOf) (defScope sTupOf) .none kVTo dcTo pmTo anTo cdTo ctTo), slTo⟩)
      (cTo : PySem.W.codeIn K cdTo "is_tuple_of" = true) (kTo : PySem.W.keepIn K (.ref fTo) = true)
    (aSp : PySem.W.nsIn K mainGlobals "is_split" = some (some (.ref fSp))) (lSp : K.lookup fSp = some ⟨ocSp, odSp, .func (PySem.W.fnOf "is_split" "is_split" (defArgs sSp) (defBody sSp) (defScope sSp) .none kVSp dcSp pmSp anSp cdSp ctSp), slSp⟩)
      (cSp : PySem.W.codeIn K cdSp "is_split" = true) (kSp : PySem.W.keepIn K (.ref fSp) = true)
    (aIA : PySem.W.nsIn K mainGlobals "is_assignment" = some (some (.ref fIA))) (lIA : K.lookup fIA = some ⟨ocIA, odIA, .func (PySem.W.fnOf "is_assignment" "is_assignment" (defArgs sIA) (defBody sIA) (defScope sIA) .none kVIA dcIA pmIA anIA cdIA ctIA), slIA⟩)
      (cIA : PySem.W.codeIn K cdIA "is_assignment" = true) (kIA : PySem.W.keepIn K (.ref fIA) = true)
    (aLo : PySem.W.nsIn K mainGlobals "post_loads" = some (some (.ref fLo))) (lLo : K.lookup fLo = some ⟨ocLo, odLo, .func (PySem.W.fnOf "post_loads" "post_loads" (defArgs sLoads) (defBody sLoads) (defScope sLoads) .none kVLo dcLo pmLo anLo cdLo ctLo), slLo⟩)
      (cLo : PySem.W.codeIn K cdLo "post_loads" = true) (kLo : PySem.W.keepIn K (.ref fLo) = true)
    (aIC : PySem.W.nsIn K mainGlobals "is_change" = some (some (.ref fIC))) (lIC : K.lookup fIC = some ⟨ocIC, odIC, .func (PySem.W.fnOf "is_change" "is_change" (defArgs sIC) (defBody sIC) (defScope sIC) .none kVIC dcIC pmIC anIC cdIC ctIC), slIC⟩)
      (cIC : PySem.W.codeIn K cdIC "is_change" = true) (kIC : PySem.W.keepIn K (.ref fIC) = true)
    (aTa : PySem.W.nsIn K mainGlobals "is_table" = some (some (.ref fTa))) (lTa : K.lookup fTa = some ⟨ocTa, odTa, .func (PySem.W.fnOf "is_table" "is_table" (defArgs sTa) (defBody sTa) (defScope sTa) .none kVTa dcTa pmTa anTa cdTa ctTa), slTa⟩)
      (cTa : PySem.W.codeIn K cdTa "is_table" = true) (kTa : PySem.W.keepIn K (.ref fTa) = true)
    (aTR : PySem.W.nsIn K mainGlobals "tables_result" = some (some (.ref fTR))) (lTR : K.lookup fTR = some ⟨ocTR, odTR, .func (PySem.W.fnOf "tables_result" "tables_result" (defArgs sTR) (defBody sTR) (defScope sTR) .none kVTR dcTR pmTR anTR cdTR ctTR), slTR⟩)
      (cTR : PySem.W.codeIn K cdTR "tables_result" = true) (kTR : PySem.W.keepIn K (.ref fTR) = true)
    (aCR : PySem.W.nsIn K mainGlobals "change_result" = some (some (.ref fCR))) (lCR : K.lookup fCR = some ⟨ocCR, odCR, .func (PySem.W.fnOf "change_result" "change_result" (defArgs sCR) (defBody sCR) (defScope sCR) .none kVCR dcCR pmCR anCR cdCR ctCR), slCR⟩)
      (cCR : PySem.W.codeIn K cdCR "change_result" = true) (kCR : PySem.W.keepIn K (.ref fCR) = true)
    (aVo : PySem.W.nsIn K mainGlobals "vote" = some (some (.ref fVo))) (lVo : K.lookup fVo = some ⟨ocVo, odVo, .func (PySem.W.fnOf "vote" "vote" (defArgs sVo) (defBody sVo) (defScope sVo) .none kVVo dcVo pmVo anVo cdVo ctVo), slVo⟩)
      (cVo : PySem.W.codeIn K cdVo "vote" = true) (kVo : PySem.W.keepIn K (.ref fVo) = true)
    (aCS : PySem.W.nsIn K mainGlobals "change_surplus" = some (some (.ref fCS))) (lCS : K.lookup fCS = some ⟨ocCS, odCS, .func (PySem.W.fnOf "change_surplus" "change_surplus" (defArgs sCS) (defBody sCS) (defScope sCS) .none kVCS dcCS pmCS anCS cdCS ctCS), slCS⟩)
      (cCS : PySem.W.codeIn K cdCS "change_surplus" = true) (kCS : PySem.W.keepIn K (.ref fCS) = true)
    (aSC : PySem.W.nsIn K mainGlobals "stay_change" = some (some (.ref fSC))) (lSC : K.lookup fSC = some ⟨ocSC, odSC, .func (PySem.W.fnOf "stay_change" "stay_change" (defArgs sSC) (defBody sSC) (defScope sSC) .none kVSC dcSC pmSC anSC cdSC ctSC), slSC⟩)
      (cSC : PySem.W.codeIn K cdSC "stay_change" = true) (kSC : PySem.W.keepIn K (.ref fSC) = true)
    (aSR : PySem.W.nsIn K mainGlobals "stay_row" = some (some (.ref fSR))) (lSR : K.lookup fSR = some ⟨ocSR, odSR, .func (PySem.W.fnOf "stay_row" "stay_row" (defArgs sSR) (defBody sSR) (defScope sSR) .none kVSR dcSR pmSR anSR cdSR ctSR), slSR⟩)
      (cSR : PySem.W.codeIn K cdSR "stay_row" = true) (kSR : PySem.W.keepIn K (.ref fSR) = true)
    (aSt : PySem.W.nsIn K mainGlobals "_law_start" = some (some (.ref fSt))) (lSt : K.lookup fSt = some ⟨ocSt, odSt, .func (PySem.W.fnOf "_law_start" "_law_start" (defArgs sStart) (defBody sStart) (defScope sStart) .none kVSt dcSt pmSt anSt cdSt ctSt), slSt⟩)
      (cSt : PySem.W.codeIn K cdSt "_law_start" = true) (kSt : PySem.W.keepIn K (.ref fSt) = true)
    (aDr : PySem.W.nsIn K mainGlobals "_law_draw" = some (some (.ref fDr))) (lDr : K.lookup fDr = some ⟨ocDr, odDr, .func (PySem.W.fnOf "_law_draw" "_law_draw" (defArgs sDraw) (defBody sDraw) (defScope sDraw) .none kVDr dcDr pmDr anDr cdDr ctDr), slDr⟩)
      (cDr : PySem.W.codeIn K cdDr "_law_draw" = true) (kDr : PySem.W.keepIn K (.ref fDr) = true)
    (aIn : PySem.W.nsIn K mainGlobals "_law_instance" = some (some (.ref fIn))) (lIn : K.lookup fIn = some ⟨ocIn, odIn, .func (PySem.W.fnOf "_law_instance" "_law_instance" (defArgs sInst) (defBody sInst) (defScope sInst) .none kVIn dcIn pmIn anIn cdIn ctIn), slIn⟩)
      (cIn : PySem.W.codeIn K cdIn "_law_instance" = true) (kIn : PySem.W.keepIn K (.ref fIn) = true)
    (aFa : PySem.W.nsIn K mainGlobals "_law_far_amount" = some (some (.ref fFa))) (lFa : K.lookup fFa = some ⟨ocFa, odFa, .func (PySem.W.fnOf "_law_far_amount" "_law_far_amount" (defArgs sFar) (defBody sFar) (defScope sFar) .none kVFa dcFa pmFa anFa cdFa ctFa), slFa⟩)
      (cFa : PySem.W.codeIn K cdFa "_law_far_amount" = true) (kFa : PySem.W.keepIn K (.ref fFa) = true)
    (aAs : PySem.W.nsIn K mainGlobals "_law_assignment" = some (some (.ref fAs))) (lAs : K.lookup fAs = some ⟨ocAs, odAs, .func (PySem.W.fnOf "_law_assignment" "_law_assignment" (defArgs sAsg) (defBody sAsg) (defScope sAsg) .none kVAs dcAs pmAs anAs cdAs ctAs), slAs⟩)
      (cAs : PySem.W.codeIn K cdAs "_law_assignment" = true) (kAs : PySem.W.keepIn K (.ref fAs) = true)
    (aOd : PySem.W.nsIn K mainGlobals "_law_odd" = some (some (.ref fOd))) (lOd : K.lookup fOd = some ⟨ocOd, odOd, .func (PySem.W.fnOf "_law_odd" "_law_odd" (defArgs sOdd) (defBody sOdd) (defScope sOdd) .none kVOd dcOd pmOd anOd cdOd ctOd), slOd⟩)
      (cOd : PySem.W.codeIn K cdOd "_law_odd" = true) (kOd : PySem.W.keepIn K (.ref fOd) = true)
    (aBe : PySem.W.nsIn K mainGlobals "_law_bent" = some (some (.ref fBe))) (lBe : K.lookup fBe = some ⟨ocBe, odBe, .func (PySem.W.fnOf "_law_bent" "_law_bent" (defArgs sBent) (defBody sBent) (defScope sBent) .none kVBe dcBe pmBe anBe cdBe ctBe), slBe⟩)
      (cBe : PySem.W.codeIn K cdBe "_law_bent" = true) (kBe : PySem.W.keepIn K (.ref fBe) = true)
    (aBt : PySem.W.nsIn K mainGlobals "_law_table_between" = some (some (.ref fBt))) (lBt : K.lookup fBt = some ⟨ocBt, odBt, .func (PySem.W.fnOf "_law_table_between" "_law_table_between" (defArgs sBt) (defBody sBt) (defScope sBt) .none kVBt dcBt pmBt anBt cdBt ctBt), slBt⟩)
      (cBt : PySem.W.codeIn K cdBt "_law_table_between" = true) (kBt : PySem.W.keepIn K (.ref fBt) = true)
    (aOr : PySem.W.nsIn K mainGlobals "_law_order" = some (some (.ref fOr))) (lOr : K.lookup fOr = some ⟨ocOr, odOr, .func (PySem.W.fnOf "_law_order" "_law_order" (defArgs sOr) (defBody sOr) (defScope sOr) .none kVOr dcOr pmOr anOr cdOr ctOr), slOr⟩)
      (cOr : PySem.W.codeIn K cdOr "_law_order" = true) (kOr : PySem.W.keepIn K (.ref fOr) = true)
    (aCh : PySem.W.nsIn K mainGlobals "_law_change" = some (some (.ref fCh))) (lCh : K.lookup fCh = some ⟨ocCh, odCh, .func (PySem.W.fnOf "_law_change" "_law_change" (defArgs sCh) (defBody sCh) (defScope sCh) .none kVCh dcCh pmCh anCh cdCh ctCh), slCh⟩)
      (cCh : PySem.W.codeIn K cdCh "_law_change" = true) (kCh : PySem.W.keepIn K (.ref fCh) = true)
    (aLV : PySem.W.nsIn K mainGlobals "_law_votes" = some (some (.ref fLV))) (lLV : K.lookup fLV = some ⟨ocLV, odLV, .func (PySem.W.fnOf "_law_votes" "_law_votes" (defArgs sLV) (defBody sLV) (defScope sLV) .none kVLV dcLV pmLV anLV cdLV ctLV), slLV⟩)
      (cLV : PySem.W.codeIn K cdLV "_law_votes" = true) (kLV : PySem.W.keepIn K (.ref fLV) = true)
    (aLT : PySem.W.nsIn K mainGlobals "_law_told" = some (some (.ref fLT))) (lLT : K.lookup fLT = some ⟨ocLT, odLT, .func (PySem.W.fnOf "_law_told" "_law_told" (defArgs sLT) (defBody sLT) (defScope sLT) .none kVLT dcLT pmLT anLT cdLT ctLT), slLT⟩)
      (cLT : PySem.W.codeIn K cdLT "_law_told" = true) (kLT : PySem.W.keepIn K (.ref fLT) = true)
    (aLS : PySem.W.nsIn K mainGlobals "_law_still" = some (some (.ref fLS))) (lLS : K.lookup fLS = some ⟨ocLS, odLS, .func (PySem.W.fnOf "_law_still" "_law_still" (defArgs sLS) (defBody sLS) (defScope sLS) .none kVLS dcLS pmLS anLS cdLS ctLS), slLS⟩)
      (cLS : PySem.W.codeIn K cdLS "_law_still" = true) (kLS : PySem.W.keepIn K (.ref fLS) = true)
    (aLa : PySem.W.nsIn K mainGlobals "law" = some (some (.ref fLa))) (lLa : K.lookup fLa = some ⟨ocLa, odLa, .func (PySem.W.fnOf "law" "law" (defArgs sLa) (defBody sLa) (defScope sLa) .none kVLa dcLa pmLa anLa cdLa ctLa), slLa⟩)
      (cLa : PySem.W.codeIn K cdLa "law" = true) (kLa : PySem.W.keepIn K (.ref fLa) = true)
    (z0 : PySem.W.nsIn K mainGlobals "isinstance" = some none)
    (z1 : PySem.W.nsIn K mainGlobals "int" = some none)
    (z2 : PySem.W.nsIn K mainGlobals "bool" = some none)
    (z3 : PySem.W.nsIn K mainGlobals "tuple" = some none)
    (z4 : PySem.W.nsIn K mainGlobals "list" = some none)
    (z5 : PySem.W.nsIn K mainGlobals "len" = some none)
    (z6 : PySem.W.nsIn K mainGlobals "all" = some none)
    (z7 : PySem.W.nsIn K mainGlobals "sum" = some none)
    (z8 : PySem.W.nsIn K mainGlobals "zip" = some none)
    (z9 : PySem.W.nsIn K mainGlobals "abs" = some none)
    (z10 : PySem.W.nsIn K mainGlobals "min" = some none)
    (z11 : PySem.W.nsIn K mainGlobals "range" = some none)
    (z12 : PySem.W.nsIn K mainGlobals "repr" = some none)
    (z13 : PySem.W.nsIn K mainGlobals "enumerate" = some none)
    (z14 : PySem.W.nsIn K mainGlobals "ValueError" = some none)
    {cVE : Addr} (aCVE : PySem.W.nsIn K mainGlobals "VoteError" = some (some (.ref cVE))) (iCVE : isCB K cVE = true)
    {cNC : Addr} (aCNC : PySem.W.nsIn K mainGlobals "NoChange" = some (some (.ref cNC))) (iCNC : isCB K cNC = true)
    {cBe2 : Addr} (aCBe2 : PySem.W.nsIn K mainGlobals "Beaten" = some (some (.ref cBe2))) (iCBe2 : isCB K cBe2 = true)
    {cBV : Addr} (aCBV : PySem.W.nsIn K mainGlobals "BadVector" = some (some (.ref cBV))) (iCBV : isCB K cBV = true)
    (xNC : PySem.W.excIn K cNC VEbm "ValueError.__new__" = true)
    (x1 : PySem.W.exmOne K (.ref cNC) (.ref cVE) = some true)
    (x2 : PySem.W.kitOne K (.ref cNC) (.ref cNC) = some true)
    (x3 : PySem.W.kitOne K (.ref cNC) (.type "ValueError") = some true)
    (x4 : PySem.W.kitAny K (.ref cNC) [.ref cBV, .ref cBe2] = some false)
    : ∃ fd : FuncData, (∀ (s : Shared) (v : Value), BindsTo s fd ⟨[v], []⟩ [("_law_script", v)]) ∧ ∀ base : Heap, K.In base → base.Ns mainGlobals mg → FnG l.prog w K mg base 9 fa fd ["_law_script"] (spLaw K) := by
  have e := hfa.symm.trans (PySem.W.mg_of X G aLa)
  cases e
  have FWh := fun_mk (st := sWhole) lWh cWh kWh
  have bWh := FWh.binds (ps := ["value"]) fun _ _ _ _ _ _ us hl => match us, hl with | [_], _ => rfl
  have gWh := PySem.W.mg_of X G aWh
  have FWi := fun_mk (st := sWithin) lWi cWi kWi
  have bWi := FWi.binds (ps := ["value", "least", "most"]) fun _ _ _ _ _ _ us hl => match us, hl with | [_, _, _], _ => rfl
  have gWi := PySem.W.mg_of X G aWi
  have FTo := fun_mk (st := sTupOf) lTo cTo kTo
  have bTo := FTo.binds (ps := ["value", "least", "most"]) fun _ _ _ _ _ _ us hl => match us, hl with | [_, _, _], _ => rfl
  have gTo := PySem.W.mg_of X G aTo
  have FSp := fun_mk (st := sSp) lSp cSp kSp
  have bSp := FSp.binds (ps := ["value", "size", "total"]) fun _ _ _ _ _ _ us hl => match us, hl with | [_, _, _], _ => rfl
  have gSp := PySem.W.mg_of X G aSp
  have FIA := fun_mk (st := sIA) lIA cIA kIA
  have bIA := FIA.binds (ps := ["instance", "value"]) fun _ _ _ _ _ _ us hl => match us, hl with | [_, _], _ => rfl
  have gIA := PySem.W.mg_of X G aIA
  have FLo := fun_mk (st := sLoads) lLo cLo kLo
  have bLo := FLo.binds (ps := ["instance", "assignment"]) fun _ _ _ _ _ _ us hl => match us, hl with | [_, _], _ => rfl
  have gLo := PySem.W.mg_of X G aLo
  have FIC := fun_mk (st := sIC) lIC cIC kIC
  have bIC := FIC.binds (ps := ["instance", "assignment", "value"]) fun _ _ _ _ _ _ us hl => match us, hl with | [_, _, _], _ => rfl
  have gIC := PySem.W.mg_of X G aIC
  have FTa := fun_mk (st := sTa) lTa cTa kTa
  have bTa := FTa.binds (ps := ["share", "value"]) fun _ _ _ _ _ _ us hl => match us, hl with | [_, _], _ => rfl
  have gTa := PySem.W.mg_of X G aTa
  have FTR := fun_mk (st := sTR) lTR cTR kTR
  have bTR := FTR.binds (ps := ["tables"]) fun _ _ _ _ _ _ us hl => match us, hl with | [_], _ => rfl
  have gTR := PySem.W.mg_of X G aTR
  have FCR := fun_mk (st := sCR) lCR cCR kCR
  have bCR := FCR.binds (ps := ["instance", "assignment", "change"]) fun _ _ _ _ _ _ us hl => match us, hl with | [_, _, _], _ => rfl
  have gCR := PySem.W.mg_of X G aCR
  have FVo := fun_mk (st := sVo) lVo cVo kVo
  have bVo := FVo.binds (ps := ["start", "end"]) fun _ _ _ _ _ _ us hl => match us, hl with | [_, _], _ => rfl
  have gVo := PySem.W.mg_of X G aVo
  have FCS := fun_mk (st := sCS) lCS cCS kCS
  have bCS := FCS.binds (ps := ["change"]) fun _ _ _ _ _ _ us hl => match us, hl with | [_], _ => rfl
  have gCS := PySem.W.mg_of X G aCS
  have FSC := fun_mk (st := sSC) lSC cSC kSC
  have bSC := FSC.binds (ps := ["assignment"]) fun _ _ _ _ _ _ us hl => match us, hl with | [_], _ => rfl
  have gSC := PySem.W.mg_of X G aSC
  have FSR := fun_mk (st := sSR) lSR cSR kSR
  have bSR := FSR.binds (ps := ["share", "option"]) fun _ _ _ _ _ _ us hl => match us, hl with | [_, _], _ => rfl
  have gSR := PySem.W.mg_of X G aSR
  have FSt := fun_mk (st := sStart) lSt cSt kSt
  have bSt := FSt.binds (ps := ["_law_script"]) fun _ _ _ _ _ _ us hl => match us, hl with | [_], _ => rfl
  have gSt := PySem.W.mg_of X G aSt
  have FDr := fun_mk (st := sDraw) lDr cDr kDr
  have bDr := FDr.binds (ps := ["_law_state", "_law_below"]) fun _ _ _ _ _ _ us hl => match us, hl with | [_, _], _ => rfl
  have gDr := PySem.W.mg_of X G aDr
  have FIn := fun_mk (st := sInst) lIn cIn kIn
  have bIn := FIn.binds (ps := ["_law_state", "_law_posts", "_law_groups", "_law_most"]) fun _ _ _ _ _ _ us hl => match us, hl with | [_, _, _, _], _ => rfl
  have gIn := PySem.W.mg_of X G aIn
  have FFa := fun_mk (st := sFar) lFa cFa kFa
  have bFa := FFa.binds (ps := ["_law_state", "_law_most"]) fun _ _ _ _ _ _ us hl => match us, hl with | [_, _], _ => rfl
  have gFa := PySem.W.mg_of X G aFa
  have FAs := fun_mk (st := sAsg) lAs cAs kAs
  have bAs := FAs.binds (ps := ["_law_state", "_law_instance_here"]) fun _ _ _ _ _ _ us hl => match us, hl with | [_, _], _ => rfl
  have gAs := PySem.W.mg_of X G aAs
  have FOd := fun_mk (st := sOdd) lOd cOd kOd
  have bOd := FOd.binds (ps := ["_law_state"]) fun _ _ _ _ _ _ us hl => match us, hl with | [_], _ => rfl
  have gOd := PySem.W.mg_of X G aOd
  have FBe := fun_mk (st := sBent) lBe cBe kBe
  have bBe := FBe.binds (ps := ["_law_state", "_law_value"]) fun _ _ _ _ _ _ us hl => match us, hl with | [_, _], _ => rfl
  have gBe := PySem.W.mg_of X G aBe
  have FBt := fun_mk (st := sBt) lBt cBt kBt
  have bBt := FBt.binds (ps := ["_law_state", "_law_numbers", "_law_others"]) fun _ _ _ _ _ _ us hl => match us, hl with | [_, _, _], _ => rfl
  have gBt := PySem.W.mg_of X G aBt
  have FOr := fun_mk (st := sOr) lOr cOr kOr
  have bOr := FOr.binds (ps := ["_law_state", "_law_size"]) fun _ _ _ _ _ _ us hl => match us, hl with | [_, _], _ => rfl
  have gOr := PySem.W.mg_of X G aOr
  have FCh := fun_mk (st := sCh) lCh cCh kCh
  have bCh := FCh.binds (ps := ["_law_state", "_law_one", "_law_other"]) fun _ _ _ _ _ _ us hl => match us, hl with | [_, _, _], _ => rfl
  have gCh := PySem.W.mg_of X G aCh
  have FLV := fun_mk (st := sLV) lLV cLV kLV
  have bLV := FLV.binds (ps := ["_law_change_here"]) fun _ _ _ _ _ _ us hl => match us, hl with | [_], _ => rfl
  have gLV := PySem.W.mg_of X G aLV
  have FLT := fun_mk (st := sLT) lLT cLT kLT
  have bLT := FLT.binds (ps := ["_law_instance_here", "_law_assignment_here", "_law_value"]) fun _ _ _ _ _ _ us hl => match us, hl with | [_, _, _], _ => rfl
  have gLT := PySem.W.mg_of X G aLT
  have FLS := fun_mk (st := sLS) lLS cLS kLS
  have bLS := FLS.binds (ps := ["_law_assignment_here"]) fun _ _ _ _ _ _ us hl => match us, hl with | [_], _ => rfl
  have gLS := PySem.W.mg_of X G aLS
  have FLa := fun_mk (st := sLa) lLa cLa kLa
  have m_isinstance := PySem.W.mg_none_of X G z0
  have m_int := PySem.W.mg_none_of X G z1
  have m_bool := PySem.W.mg_none_of X G z2
  have m_tuple := PySem.W.mg_none_of X G z3
  have m_list := PySem.W.mg_none_of X G z4
  have m_len := PySem.W.mg_none_of X G z5
  have m_all := PySem.W.mg_none_of X G z6
  have m_sum := PySem.W.mg_none_of X G z7
  have m_zip := PySem.W.mg_none_of X G z8
  have m_abs := PySem.W.mg_none_of X G z9
  have m_min := PySem.W.mg_none_of X G z10
  have m_range := PySem.W.mg_none_of X G z11
  have m_repr := PySem.W.mg_none_of X G z12
  have m_enumerate := PySem.W.mg_none_of X G z13
  have m_ValueError := PySem.W.mg_none_of X G z14
  have gVE := PySem.W.mg_of X G aCVE
  have IVE := isCB_ok iCVE
  have gNC := PySem.W.mg_of X G aCNC
  have INC := isCB_ok iCNC
  have gBe2 := PySem.W.mg_of X G aCBe2
  have IBe2 := isCB_ok iCBe2
  have gBV := PySem.W.mg_of X G aCBV
  have IBV := isCB_ok iCBV
  refine ⟨PySem.W.fnOf "law" "law" (defArgs sLa) (defBody sLa) (defScope sLa) .none kVLa dcLa pmLa anLa cdLa ctLa, fun s v => .of_eq rfl, fun base _ _ => ?_⟩
  have GWh := ok_whole (P := l.prog) (w := w) (base := base) (mg := mg) (k := 0) FWh m_isinstance m_int m_bool
  have GWi := ok_within (P := l.prog) (w := w) (base := base) (mg := mg) (k := 0) FWi FWh bWh gWh GWh
  have GTo := ok_tupOf (P := l.prog) (w := w) (base := base) (mg := mg) (k := 0) FTo m_isinstance m_tuple m_len
  have GSp := ok_Sp (P := l.prog) (w := w) (base := base) (mg := mg) FSp  FTo bTo gTo GTo FWi bWi gWi GWi   m_all m_sum
  have GLo := ok_loads (P := l.prog) (w := w) (base := base) (mg := mg) (k := 0) FLo m_len m_zip m_tuple
  have GIA := ok_IA (P := l.prog) (w := w) (base := base) (mg := mg) FIA  FTo bTo gTo GTo FSp bSp gSp GSp FLo bLo gLo GLo   m_len m_zip m_all
  have GTa := ok_Ta (P := l.prog) (w := w) (base := base) (mg := mg) FTa  FTo bTo gTo GTo FSp bSp gSp GSp   m_len m_zip m_all
  have GTR := ok_TR (P := l.prog) (w := w) (base := base) (mg := mg) FTR     m_zip m_sum m_tuple
  have GIC := ok_IC (P := l.prog) (w := w) (base := base) (mg := mg) FIC  FTo bTo gTo GTo FTa bTa gTa GTa FTR bTR gTR GTR FIA bIA gIA GIA   m_len m_zip m_all
  have GVo := ok_Vo (P := l.prog) (w := w) (base := base) (mg := mg) FVo     
  have GCS := ok_CS (P := l.prog) (w := w) (base := base) (mg := mg) FCS  FVo bVo gVo GVo   m_enumerate m_sum
  have GSR := ok_SR (P := l.prog) (w := w) (base := base) (mg := mg) FSR     m_enumerate m_tuple
  have GSC := ok_SC (P := l.prog) (w := w) (base := base) (mg := mg) FSC  FSR bSR gSR GSR   m_len m_range m_tuple
  have GCR := ok_CX (P := l.prog) (w := w) (base := base) (mg := mg) FCR FIC bIC gIC GIC FTR bTR gTR GTR gNC INC xNC
  have GLT := ok_LT (P := l.prog) (w := w) (base := base) (mg := mg) FLT FCR bCR gCR GCR gNC gVE gBV gBe2 INC x1 x2 x3 x4 m_isinstance m_int m_ValueError
  have GSt := ok_start (P := l.prog) (w := w) (base := base) (mg := mg) (k := 0) FSt m_abs m_int m_len
  have GDr := ok_draw (P := l.prog) (w := w) (base := base) (mg := mg) (k := 0) FDr m_len
  have GIn := ok_inst (P := l.prog) (w := w) (base := base) (mg := mg) (k := 0) FIn FDr bDr gDr GDr m_tuple m_range m_list m_len
  have GFa := ok_far (P := l.prog) (w := w) (base := base) (mg := mg) (k := 0) FFa FDr bDr gDr GDr m_min
  have GAs := ok_asg (P := l.prog) (w := w) (base := base) (mg := mg) (k := 0) FAs FFa bFa gFa GFa m_list m_min m_tuple
  have GOd := ok_odd (P := l.prog) (w := w) (base := base) (mg := mg) (k := 0) FOd FDr bDr gDr GDr
  have GBe := ok_bent (P := l.prog) (w := w) (base := base) (mg := mg) FBe bBe gBe FDr bDr gDr GDr FOd bOd gOd GOd m_isinstance m_tuple m_len m_list m_int m_bool 7
  have GOr := ok_Or (P := l.prog) (w := w) (base := base) (mg := mg) FOr  FDr bDr gDr GDr   m_list m_range m_len
  have GBt := ok_Bt (P := l.prog) (w := w) (base := base) (mg := mg) FBt  FOr bOr gOr GOr   m_list m_len m_min m_tuple
  have GCh := ok_Ch (P := l.prog) (w := w) (base := base) (mg := mg) FCh  FBt bBt gBt GBt   m_zip m_tuple
  have GLV := ok_LV (P := l.prog) (w := w) (base := base) (mg := mg) FLV     m_enumerate m_int
  have GLS := ok_LS (P := l.prog) (w := w) (base := base) (mg := mg) FLS     m_len m_enumerate m_tuple
  exact ok_La (P := l.prog) (w := w) (base := base) FLa  FSt bSt gSt GSt FDr bDr gDr GDr FIn bIn gIn GIn FAs bAs gAs GAs FCh bCh gCh GCh FLS bLS gLS GLS FSC bSC gSC GSC FLT bLT gLT GLT FCS bCS gCS GCS FLV bLV gLV GLV FBe bBe gBe GBe FOd bOd gOd GOd FIC bIC gIC GIC   m_range m_repr m_list
end Pv

open PySem PySem.W PyProof.Rows
set_option maxRecDepth 100000 in
set_option maxHeartbeats 0 in
theorem PySem.Challenge.cw_postvote_k06_results_and_votes_holds : PySem.Challenge.rw_postvote_k06_results_and_votes.Holds := by
  w_on; o_law; k_head; (case hw => w_witness2)
  k_fill
  refine Pv.walkG (l := PySem.Challenge.rw_postvote_k06_results_and_votes) (n := 63) (k := 9) (x := "_law_script") (sp := fun w => Pv.spLaw _) rfl (by decide) rfl ⟨rfl, by decide, by decide⟩ (fun w h Y => PySem.W.kIn_of Y) ?F (fun _ _ a ns hl _ _ hS => ⟨a, ns, rfl, hS, hl, fun _ => rfl⟩)
  case F =>
    intro w mg fa h KX G hmg
    refine' Pv.all_mk KX G hmg ?aWh ?lWh ?cWh ?kWh ?aWi ?lWi ?cWi ?kWi ?aTo ?lTo ?cTo ?kTo ?aSp ?lSp ?cSp ?kSp ?aIA ?lIA ?cIA ?kIA ?aLo ?lLo ?cLo ?kLo ?aIC ?lIC ?cIC ?kIC ?aTa ?lTa ?cTa ?kTa ?aTR ?lTR ?cTR ?kTR ?aCR ?lCR ?cCR ?kCR ?aVo ?lVo ?cVo ?kVo ?aCS ?lCS ?cCS ?kCS ?aSC ?lSC ?cSC ?kSC ?aSR ?lSR ?cSR ?kSR ?aSt ?lSt ?cSt ?kSt ?aDr ?lDr ?cDr ?kDr ?aIn ?lIn ?cIn ?kIn ?aFa ?lFa ?cFa ?kFa ?aAs ?lAs ?cAs ?kAs ?aOd ?lOd ?cOd ?kOd ?aBe ?lBe ?cBe ?kBe ?aBt ?lBt ?cBt ?kBt ?aOr ?lOr ?cOr ?kOr ?aCh ?lCh ?cCh ?kCh ?aLV ?lLV ?cLV ?kLV ?aLT ?lLT ?cLT ?kLT ?aLS ?lLS ?cLS ?kLS ?aLa ?lLa ?cLa ?kLa ?z0 ?z1 ?z2 ?z3 ?z4 ?z5 ?z6 ?z7 ?z8 ?z9 ?z10 ?z11 ?z12 ?z13 ?z14 ?aCVE ?iCVE ?aCNC ?iCNC ?aCBe2 ?iCBe2 ?aCBV ?iCBV ?xNC ?x1 ?x2 ?x3 ?x4
    (case aWh => k_is); (case lWh => k_is); (case cWh => k_is); (case kWh => k_is); (case aWi => k_is); (case lWi => k_is); (case cWi => k_is); (case kWi => k_is); (case aTo => k_is); (case lTo => k_is); (case cTo => k_is); (case kTo => k_is); (case aSp => k_is); (case lSp => k_is); (case cSp => k_is); (case kSp => k_is); (case aIA => k_is); (case lIA => k_is); (case cIA => k_is); (case kIA => k_is); (case aLo => k_is); (case lLo => k_is); (case cLo => k_is); (case kLo => k_is); (case aIC => k_is); (case lIC => k_is); (case cIC => k_is); (case kIC => k_is); (case aTa => k_is); (case lTa => k_is); (case cTa => k_is); (case kTa => k_is); (case aTR => k_is); (case lTR => k_is); (case cTR => k_is); (case kTR => k_is); (case aCR => k_is); (case lCR => k_is); (case cCR => k_is); (case kCR => k_is); (case aVo => k_is); (case lVo => k_is); (case cVo => k_is); (case kVo => k_is); (case aCS => k_is); (case lCS => k_is); (case cCS => k_is); (case kCS => k_is); (case aSC => k_is); (case lSC => k_is); (case cSC => k_is); (case kSC => k_is); (case aSR => k_is); (case lSR => k_is); (case cSR => k_is); (case kSR => k_is); (case aSt => k_is); (case lSt => k_is); (case cSt => k_is); (case kSt => k_is); (case aDr => k_is); (case lDr => k_is); (case cDr => k_is); (case kDr => k_is); (case aIn => k_is); (case lIn => k_is); (case cIn => k_is); (case kIn => k_is); (case aFa => k_is); (case lFa => k_is); (case cFa => k_is); (case kFa => k_is); (case aAs => k_is); (case lAs => k_is); (case cAs => k_is); (case kAs => k_is); (case aOd => k_is); (case lOd => k_is); (case cOd => k_is); (case kOd => k_is); (case aBe => k_is); (case lBe => k_is); (case cBe => k_is); (case kBe => k_is); (case aBt => k_is); (case lBt => k_is); (case cBt => k_is); (case kBt => k_is); (case aOr => k_is); (case lOr => k_is); (case cOr => k_is); (case kOr => k_is); (case aCh => k_is); (case lCh => k_is); (case cCh => k_is); (case kCh => k_is); (case aLV => k_is); (case lLV => k_is); (case cLV => k_is); (case kLV => k_is); (case aLT => k_is); (case lLT => k_is); (case cLT => k_is); (case kLT => k_is); (case aLS => k_is); (case lLS => k_is); (case cLS => k_is); (case kLS => k_is); (case aLa => k_is); (case lLa => k_is); (case cLa => k_is); (case kLa => k_is); (case z0 => k_is); (case z1 => k_is); (case z2 => k_is); (case z3 => k_is); (case z4 => k_is); (case z5 => k_is); (case z6 => k_is); (case z7 => k_is); (case z8 => k_is); (case z9 => k_is); (case z10 => k_is); (case z11 => k_is); (case z12 => k_is); (case z13 => k_is); (case z14 => k_is); (case aCVE => k_is); (case iCVE => kernel_rfl); (case aCNC => k_is); (case iCNC => kernel_rfl); (case aCBe2 => k_is); (case iCBe2 => kernel_rfl); (case aCBV => k_is); (case iCBV => kernel_rfl); (case xNC => kernel_rfl); (case x1 => kernel_rfl); (case x2 => kernel_rfl); (case x3 => kernel_rfl); (case x4 => kernel_rfl)
