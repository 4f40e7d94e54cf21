import PyProof.Rows.All
import Wide.All
import OpenK.AllK
import Wide.FinOn
import HandS.ForMost
import HandS.Conv
import HandS.Zip
import HandS.Walk
import HandS.IsInst
import HandS.Wide
import HandS.EndBits
import HandS.TupAny
import HandS.TupMul
import HandS.Style
import HandS.Deep
import HandS.NoneIn
import HandS.TupLe
import KE.GoesMore
import KE.GoesZip
import HandS.Dict
import HandS.Codes
import HandS.Strs
import HandS.Exc
import HandS.ExcOwn
import HandS.WordsExc
import HandS.ExcField
import HandS.ExcInit
import KE.KExcIs
import PySem.Challenge.RW_postvote_k54_posts_relabelled_and_instan
set_option Elab.async false
set_option linter.all false
set_option maxRecDepth 100000
namespace Pv
open PySem PySem.Spec PyProof.Rows L2

/-! heaps -/
theorem upNew {H : Hp} {p b : Addr} {o z : HO} (np : H p = none) (h : H b = some z) : upd H p o b = some z := by
  rw [upd_ne (ne_of_none h np)]; exact h
theorem sameNew {H : Hp} {p : Addr} {o : HO} (np : H p = none) : Same H (upd H p o) := fun _ _ e => upNew np e

/-! a def that is called where no repr is under way -/
structure FnG (P : Program) (w : World) (K : PySem.W.Frag) (mg : Str → Option Value) (base : Heap) (k : Nat) (f : Addr) (fd : FuncData) (ps : List Str) (sp : Sp) : Prop where
  cnt : ∀ vs H Q E, sp vs H Q E → vs.length = ps.length
  go : ∀ (A : Around) (outer : List Env) (s : Shared) (H : Hp) (args : Args) (us : List Value) (vs : List V) (Q : VK) (E : XK),
    A.guards = some [] → Room k A → Env0 P w K mg base A outer s H → BindsTo s fd args (ps.zip us) → Vals vs us →
    sp vs H Q E → codeAny (model P w) A (.call (.ref f) args) (CR CX0 outer P w H s Q E) s
section
variable {P : Program} {w : World} {K : PySem.W.Frag} {mg : Str → Option Value} {base : Heap}
theorem okG {x qual : Str} {st : Stmt} {f : Addr} {fd : FuncData} {N ps : List Str} {k : Nat} {sp : Sp}
    (F : Fun K x qual st f fd) (S : FnScope N ps (defScope st)) (cnt : ∀ vs H Q E, sp vs H Q E → vs.length = ps.length)
    (hbody : ∀ (cdv : Value) (A : Around) (outer : List Env) (s : Shared) (H : Hp) (vs : List V) (Q : VK) (E : XK),
      A.guards = some [] → Room k (A.deeper (envOfC qual (defScope st) s.heap.objs.size f cdv)) → sp vs H Q E →
      ∃ t, PSs (cxOf CX0 P w K mg base N qual (defScope st) f cdv A outer s H E).nox (defBody st) t ∧
        t { nx := fun _ H' => Q .non H', rt := Q } (start N vs) H) : FnG P w K mg base (k + 1) f fd ps sp := by
  obtain ⟨oc, od, kV, doc, pm, an, cdv, ct, osl, rfl, lk, hcd⟩ := F.ex
  refine ⟨cnt, ?_⟩
  intro A outer s H args us vs Q E hgd hr e0 hb r hsp
  have hl := cnt vs H Q E hsp
  have kk : ∀ b o, base.get? b = some o → s.heap.get? b = some o := fun b o e => (e0.bs b o e).1
  have KX : K.In s.heap := e0.mod.kin.keeps kk
  have lim : s.heap.NoLimit := e0.mod.nolimit.keeps kk
  refine codeAny_call_function hr.depth (KX _ _ lk) rfl S.co S.gen rfl (PySem.W.codeRec_of KX hcd)
    (hb _ _ _ _ (wpAny_newFunctionEnv_cells S.kind ?_ ?_))
  · rintro ⟨n, v⟩ hy
    rcases S.par n (List.of_mem_zip hy).1 with q | q
    · left; exact q
    · right; exact ⟨q, PySem.W.cellsFrom_some _ _ _ (Or.inl q)⟩
  · intro env he s1 x
    cases he
    refine ⟨lim.keeps x.toInCall.keep, ?_⟩
    apply codeAny_func
    obtain ⟨t, ht0, hq⟩ := hbody cdv A outer s H vs Q E hgd (hr.deeper _) hsp
    have ht := ht0.nox
    have I := inv_start (CX := CX0) (f := f) (qual := qual) (E := E) S hr.hd e0 hl r x
    refine wpAny_mono (ht.run [] s1 (start N vs) H _ I hq) ?_ (fun _ _ z => z)
    intro fl s' hs
    cases fl with
    | ret u => obtain ⟨v, σ', H', J, rv, q⟩ := hs; exact ⟨v, H', J.os, J.bare, J.base, J.hok, rv, q⟩
    | next => obtain ⟨σ', H', J, q⟩ := hs; exact ⟨V.non, H', J.os, J.bare, J.base, J.hok, rfl, q⟩
    | brk => obtain ⟨_, _, _, q⟩ := hs; exact q.elim
    | cont => obtain ⟨_, _, _, q⟩ := hs; exact q.elim
end
section
variable {X : Cx} {k : Nat} {f : Addr} {fd : FuncData} {ps : List Str} {sp : Sp} {x : Str} {p pos : Pos} {e : Expr} {es : List Expr} {t : TA}
theorem pe_callG (F : FnG X.prog X.w X.K X.mg X.base k f fd ps sp) (hgd : X.A.guards = some []) (hr : Room k X.A) (hg : Gl X x)
    (hm : X.mg x = some (.ref f)) (hk : PySem.W.keepIn X.K (.ref f) = true) (hb : Binds X.K fd ps []) (ha : PA X (e :: es) t)
    (hdb : (x == ("__debug__" : Str)) = false := by decide) (he : starEach (e :: es) X.env = (false, eval e X.env) :: starEach es X.env := by rfl)
    (hpl : (backTo pos (starEach es X.env)).any (·.1) = false := by rfl) :
    PE X (.Call (.Name x p) (e :: es) [] pos) (tCall sp [] E0 t) := by
  constructor
  intro pins s σ H Q I h
  refine wpAny_Call_Name_kw (ld_glob I hg hm ?_ hdb)
  refine PySem.W.callWith_K (h₀ := X.base) I.ok.mod.kin hk (thn (ha.run pos pins s σ H _ I h) ?_) he hpl
  rintro us s1 ⟨vs, H1, I1, r, q⟩
  refine ⟨I1.kIn, ?_⟩
  have r2 : Vals (vs ++ []) (us ++ []) := r.append .nil
  have hl : (us ++ []).length = ps.length := by rw [← r2.length]; exact F.cnt _ _ _ _ q
  refine wpAny_call (codeAny_mono (F.go X.A X.stack s1 H1 ⟨us, []⟩ (us ++ []) (vs ++ []) Q E0 hgd hr I1.env0 (hb s1 us I1.kIn hl) r2 q) ?_)
  intro rr s' hq
  match rr, hq with
  | .error e, hq => exact hq.elim
  | .ok (.ret u), hq => exact I1.after hq
  | .ok .next, hq => exact hq.elim
  | .ok .brk, hq => exact hq.elim
  | .ok .cont, hq => exact hq.elim
end
theorem lawG {P : Program} {w : World} {K : PySem.W.Frag} {mg mb : Str → Option Value} {k : Nat} {fa a : Addr} {fd : FuncData} {x : Str} {sp : Sp}
    {s₁ : Shared} {vs : List Value} {ns : List Int} (KX : K.In s₁.heap) (hns : s₁.heap.Ns mainGlobals mg) (hb : s₁.heap.Ns builtinsNs mb)
    (hbb : ∀ x : Str, x ≠ "__name__" → mb x = bootBuiltins x) (hlim : s₁.heap.NoLimit) (hg : s₁.gens = #[])
    (ha : s₁.heap.get? a = some { cls := .type "list", data := .seq vs.toArray }) (hi : IntsAre vs ns) (hl : ns.length ≤ sizeLine)
    (hr : Room k callerA) (F : ∀ base : Heap, K.In base → base.Ns mainGlobals mg → FnG P w K mg base k fa fd [x] sp)
    (hbind : ∀ (s : Shared) (u : Value), BindsTo s fd ⟨[u], []⟩ [(x, u)])
    (hsp : ∀ H : Hp, Only H → SqL K H a (ns.map V.int) → sp [.ref a] H (fun v _ => v = .bl true) E0) :
    codeAny (model P w) callerA (.call (.ref fa) ⟨[.ref a], []⟩)
      (fun r s' => r = .ok (.ret (.bool true)) ∧ OldK s₁.heap s'.heap ∧ s'.os = s₁.os ∧ AllBare s'.gens) s₁ := by
  have rv := vals_ints hi
  have lenV := hi.length
  have core : ∀ H : Hp, Only H → SqL K H a (ns.map V.int) → HOk P w H s₁.heap → (∀ b, H b ≠ none → b = a) → (H a ≠ none → K.lookup a = none) →
      codeAny (model P w) callerA (.call (.ref fa) ⟨[.ref a], []⟩)
        (fun r s' => r = .ok (.ret (.bool true)) ∧ OldK s₁.heap s'.heap ∧ s'.os = s₁.os ∧ AllBare s'.gens) s₁ := by
    intro H hO hS hok hA hK
    have noD : ∀ {b : Addr} {o : Obj} {es : Array DictEntry} {ep : Nat}, s₁.heap.get? b = some o → o.data = .dict es ep → H b = none := by
      intro b o es ep e d
      match q : H b with
      | none => rfl
      | some u =>
        obtain rfl : b = a := hA b (by rw [q]; simp)
        rw [ha] at e
        cases e
        exact absurd d (by intro z; cases z)
    have nsK : ∀ {b : Addr} {m : Str → Option Value}, s₁.heap.Ns b m → (hidT s₁.heap H).Ns b m := by
      rintro b m ⟨o, es, ep, e, d, r⟩
      exact ⟨o, es, ep, hidT_get e (noD e d), d, r⟩
    have hKb : K.In (hidT s₁.heap H) := by
      intro b o e
      refine hidT_get (KX b o e) ?_
      match q : H b with
      | none => rfl
      | some u =>
        obtain rfl : b = a := hA b (by rw [q]; simp)
        rw [hK (by rw [q]; simp)] at e
        cases e
    have hM : Mod K mg (hidT s₁.heap H) := by
      obtain ⟨mc, h1, h2⟩ := hlim
      exact ⟨hKb, nsK hns, ⟨mb, nsK hb, hbb⟩, ⟨mc, nsK h1, h2⟩⟩
    have e0 : Env0 P w K mg (hidT s₁.heap H) callerA [] s₁ H :=
      ⟨rfl, hM, fun b o e => of_hidT e, Nat.le_of_eq (hidT_size _ _), trivial, (fun b hb => by cases hb), hok, .of_eq hg⟩
    refine codeAny_mono ((F _ hKb (nsK hns)).go callerA [] s₁ H ⟨[.ref a], []⟩ [.ref a] [.ref a] _ _ rfl hr e0 (hbind s₁ (.ref a)) (.cons rfl .nil) (hsp H hO hS)) ?_
    intro r s' h
    match r, h with
    | .error e, h => exact h.elim
    | .ok .next, h => exact h.elim
    | .ok .brk, h => exact h.elim
    | .ok .cont, h => exact h.elim
    | .ok (.ret u), h =>
      obtain ⟨v, H', os, bare, un, hok', r', q⟩ := h
      cases (show v = V.bl true from q)
      cases (show u = Value.bool true from r')
      refine ⟨rfl, OldK.of_keep ?_, os, bare⟩
      intro b o e
      match q : H b with
      | none => exact un.keep b o e q (by intro z; cases z) (by intro z; cases z)
      | some u =>
        rcases hO b with z | ⟨ob, xs, z⟩
        · rw [q] at z; cases z
        · obtain ⟨e1, _⟩ := hok b _ z
          obtain ⟨e2, _⟩ := hok' b _ (un.frzs b ob _ z)
          rw [e] at e1
          cases e1
          exact e2
  match hk : K.lookup a with
  | some o =>
    have e := KX a o hk
    rw [ha] at e
    cases e
    refine core (fun _ => none) (fun _ => .inl rfl) (.inr ⟨_, vs.toArray, _, hk, rfl, rfl, rfl, ?_, by simpa using rv⟩) (fun b u z => by cases z) (fun b z => absurd rfl z) (fun z => absurd rfl z)
    rw [List.size_toArray, lenV]; exact hl
  | none =>
    let HA : Hp := fun b => if b = a then some (.frz { cls := .type "list", data := .seq vs.toArray } (.lst (ns.map V.int))) else none
    have at_a : HA a = some (.frz { cls := .type "list", data := .seq vs.toArray } (.lst (ns.map V.int))) := if_pos rfl
    have at_ne : ∀ b, b ≠ a → HA b = none := fun b h => if_neg h
    refine core HA ?_ (.inl (.inr ⟨_, at_a⟩)) ?_ ?_ (fun _ => hk)
    · intro b
      by_cases hb : b = a
      · subst hb; exact .inr ⟨_, _, at_a⟩
      · exact .inl (at_ne b hb)
    · intro b u z
      by_cases hb : b = a
      · subst hb
        rw [at_a] at z
        cases z
        exact ⟨ha, by rw [List.length_map]; exact hl, vs, _, rv, ha⟩
      · rw [at_ne b hb] at z; cases z
    · intro b z
      by_cases hb : b = a
      · exact hb
      · exact absurd (at_ne b hb) z
theorem walkG {l : PySem.W.OpenLaw} {n k : Nat} {q : Program} {loose : List Str} {XP : (Str → Option Value) → Heap → Prop} {YP : World → Heap → Prop}
    {d : DefRec} {K : Params → PySem.W.Frag} {sp : World → Sp} {x : Str} (hn : l.most = some n) (hn2 : n ≤ sizeLine) (hdf : d.params.defaults = [])
    (hr : Room k callerA) (hY : ∀ (w : World) (h : Heap), YP w h → (K w.params).In h)
    (F : ∀ (w : World) (mg : Str → Option Value) (fa : Addr) (h : Heap), (K w.params).In h → h.Ns mainGlobals mg → mg d.name = some (.ref fa) →
      ∃ fd : FuncData, (∀ (s : Shared) (u : Value), BindsTo s fd ⟨[u], []⟩ [(x, u)]) ∧
        ∀ base : Heap, (K w.params).In base → base.Ns mainGlobals mg → FnG l.prog w (K w.params) mg base k fa fd [x] (sp w))
    (hsp : ∀ (w : World) (H : Hp) (a : Addr) (ns : List Int), ns.length ≤ n → (∀ z ∈ ns, Builtin.Int.intBits z ≤ 1048576) → Only H →
      SqL (K w.params) H a (ns.map V.int) → sp w [.ref a] H (fun v _ => v = .bl true) E0) :
    PySem.W.WalkO q loose XP YP l.row.toRowW d [] (fun f vs => PySem.call f vs) := by
  refine Att.attach_callB hn hdf ?_
  intro w s₀ s₁ mg mb fa o pm cd doc a vs ns G Y ho hd hcd hmg hobj hints hlen hbits hg
  have KX := hY w _ Y
  obtain ⟨fd, hb, hF⟩ := F w mg fa _ KX G.T.g hmg
  exact lawG KX G.T.g G.T.b G.T.builtins G.T.nolimit hg hobj hints (Nat.le_trans hlen hn2) hr hF hb (fun H hO hS => hsp w H a ns hlen hbits hO hS)

/-! repr of data -/
theorem call_reprD {X : Cx} (hg : X.A.guards = some []) (hu : X.A.units + 70 < cLine) : CallR X (.builtin "repr")
    (fun xs H Q => ∃ a d, xs = [.ref a] ∧ Dp X.K H (.ref a) d ∧ d.showable = true ∧ d.hasDict = false ∧ d.depth ≤ 60 ∧
      d.shown.length ≤ sizeLine ∧ Q (.str d.shown) H) := by
  intro pins s σ H xs us Q I r h
  obtain ⟨a, d, rfl, hd, h1, h2, h3, h4, q⟩ := h
  obtain ⟨u, rfl, rfl⟩ := vals1 r
  obtain ⟨as, rd⟩ := Dp.reads I d _ _ hd rfl
  exact repr_of_reads' rd h1 (PyData.noDict_hsm h2) hg (by omega) (fun _ _ e => e) (fun h' u tk hk => ⟨.str _, H, I.kept hk, ⟨_, rfl⟩, q⟩) h4
end Pv

namespace Pv
open PySem PySem.Spec PyProof.Rows L2
theorem tup_mul0 (l : Addr) (items : Array Value) (n : Nat) (dd : Option Addr) (sl : Array (Option Value)) (u : Tok) (hi : items.isEmpty = false) :
    Meets (Builtin.«tuple.__mul__» ⟨[.ref l, .int ((0 : Nat) : Int) u], []⟩) (fun _ R s => s.heap.get? l = some { cls := .type "tuple", dict := dd, data := .seq items n, slots := sl } ∧
      R (.ok (.ret (Value.ref s.heap.objs.size))) { s with heap := s.heap.push { cls := Value.type "tuple", data := Data.seq #[] }, toks := s.toks }) :=
  .of_wp fun prog w A R s h => by
    obtain ⟨hp, g, d, tk, os⟩ := s
    obtain ⟨hl, h⟩ := h
    have f1 := AutoSeq1.idx_int
    wp_walk using AutoSeq1.wpAny_loadPart' hl
    repeat (first
      | (refine wpAny_ite_false (decide_eq_false (by simp [hi])) ?_; wp_walk using AutoSeq1.wpAny_loadPart' hl)
      | (refine wpAny_ite_true (decide_eq_true (by simp [hi])) ?_; wp_walk using AutoSeq1.wpAny_loadPart' hl))
    exact ⟨_, rfl, h⟩
theorem tup_mul1 (l : Addr) (items : Array Value) (n : Nat) (dd : Option Addr) (sl : Array (Option Value)) (u : Tok) :
    Meets (Builtin.«tuple.__mul__» ⟨[.ref l, .int ((1 : Nat) : Int) u], []⟩) (fun _ R s => s.heap.get? l = some { cls := .type "tuple", dict := dd, data := .seq items n, slots := sl } ∧
      R (.ok (.ret (Value.ref l))) s) :=
  .of_wp fun prog w A R s h => by
    obtain ⟨hp, g, d, tk, os⟩ := s
    obtain ⟨hl, h⟩ := h
    have f1 := AutoSeq1.idx_int
    wp_walk using AutoSeq1.wpAny_loadPart' hl
    repeat (first
      | (refine wpAny_ite_false (decide_eq_false (by simp)) ?_; wp_walk using AutoSeq1.wpAny_loadPart' hl)
      | (refine wpAny_ite_true (decide_eq_true (by simp)) ?_; wp_walk using AutoSeq1.wpAny_loadPart' hl))
    exact ⟨_, rfl, h⟩
def rRepA (K : PySem.W.Frag) : R2 := fun x y H Q => ∃ (l : Addr) (k : Nat) (xs : List V), x = .ref l ∧ y = .int k ∧ SqT K H l xs ∧ xs ≠ [] ∧ k ≤ 1000 ∧ xs.length ≤ 1000 ∧
    (k = 1 → Q (.ref l) H) ∧ (k ≠ 1 → ∀ p, H p = none → Q (.ref p) (upd H p (.tup (List.replicate k xs).flatten)))
abbrev RC := List V → Hp → VK → Prop
def rLenQ (K : PySem.W.Frag) : RC := fun xs H Q => ∃ (p : Addr) (ys : List V), xs = [.ref p] ∧ (SqL K H p ys ∨ SqT K H p ys) ∧ Q (.int ys.length) H
def rTupQ (K : PySem.W.Frag) : RC := fun xs H Q => ∃ (p : Addr) (ys : List V), xs = [.ref p] ∧ ((SqL K H p ys ∧ ∀ l, H l = none → Q (.ref l) (upd H l (.tup ys))) ∨ (SqT K H p ys ∧ Q (.ref p) H))
section
variable {X : Cx}
theorem call_lenQ : CallR X (.builtin "len") (rLenQ X.K) := call_len_seq
theorem call_tupQ : CallR X (.type "tuple") (rTupQ X.K) := call_tuple_of
/-- o[i] of a list, for o[i] += e -/
theorem get_list : PGet X (fun o i H Q => ∃ (p : Addr) (xs : List V) (j : Nat) (v : V), o = .ref p ∧ i = .int j ∧ SqL X.K H p xs ∧ xs[j]? = some v ∧ Q v H) := by
  intro pins s σ H o i ov iv Q I ro ri h
  obtain ⟨p, xs, j, v, rfl, rfl, hq, he, q⟩ := h
  cases ro
  obtain ⟨t, rfl⟩ := ri
  obtain ⟨its, r, pl, hz⟩ := I.list hq
  obtain ⟨u, eu, ru⟩ := r.get he
  have hj : j < its.length := (List.getElem?_eq_some_iff.mp eu).1
  have hl := r.length
  have hn := line63
  exact wpAny_getItem_list pl.isList (by omega) (by omega) (by simpa using eu) ⟨v, H, I, ru, q⟩
/-- tuple * int -/
theorem op_repA : OpR X (binaryOp .Mult) (rRepA X.K) := by
  intro pins s σ H x y v u Q I rx ry h
  obtain ⟨l, k, xs, rfl, rfl, hT, hne, h2, hz, q1, q2⟩ := h
  by_cases hk2 : 2 ≤ k
  · exact op_repT pins s σ H _ _ v u Q I rx ry ⟨l, k, xs, rfl, rfl, hT, hne, by omega, by omega, hz, by simpa using q2 (by omega)⟩
  cases rx
  obtain ⟨t, rfl⟩ := ry
  obtain ⟨its, r, ⟨⟨cls, dd, data, sl⟩, ho, hc, n, hd⟩, hs⟩ := I.tuple hT
  simp only at hc hd
  subst hc hd
  have hi : its.toArray.isEmpty = false := by
    cases its with
    | nil => exact absurd (List.eq_nil_of_length_eq_zero (by simpa using r.length)) hne
    | cons a b => rfl
  refine wpAny_binaryOp_repeat_ref (T := "tuple") (U := "int") (by decide) ⟨_, ho, rfl⟩ (fun s' => typeIs_int s' k t) noFill_tuple_mul F.fills_int_mul F.slot_int_rmul repeat_tuple F.slot_int_index.lookup
    (call_meets F.slot_int_rmul (typeIs_int s k t) F.entry_int_rmul (F.args_int_rmul_2 _ _) (int_rmul_tuple k t l its.toArray n dd sl)
      ⟨ho, rfl, ⟨_, ho, rfl⟩, ?_⟩)
  obtain hk | hk : k = 0 ∨ k = 1 := by omega
  · subst hk
    refine call_meets F.slot_tuple_mul (show s.TypeIs (.ref l) "tuple" from ⟨_, ho, rfl⟩) F.entry_tuple_mul (F.args_tuple_mul_2 _ _) (tup_mul0 l its.toArray n dd sl t hi) ⟨ho, ?_⟩
    refine ⟨.ref s.heap.objs.size, _, I.laid (t' := s.toks) (o := .tup []) (fun b ob q => Heap.get?_push_of_some _ q) (Nat.le_refl _) ?_, rfl, q2 (by decide) _ (I.hok.fresh (Nat.le_refl _))⟩
    exact ⟨Nat.zero_le _, [], .nil, IsTup.new _ _⟩
  · subst hk
    exact call_meets F.slot_tuple_mul (show s.TypeIs (.ref l) "tuple" from ⟨_, ho, rfl⟩) F.entry_tuple_mul (F.args_tuple_mul_2 _ _) (tup_mul1 l its.toArray n dd sl t) ⟨ho, ⟨.ref l, H, I, rfl, q1 rfl⟩⟩
/-- sum of a tuple of ints -/
theorem call_sumT (hc : X.calm = true) : CallR X (.builtin "sum") (fun xs H Q => ∃ (a : Addr) (ns : List Int), xs = [.ref a] ∧ SqT X.K H a (ns.map V.int) ∧ Q (.int ns.sum) H) := by
  intro pins s σ H xs us Q I r h
  obtain ⟨a, ns, rfl, hT, q⟩ := h
  obtain ⟨u, rfl, rfl⟩ := vals1 r
  obtain ⟨its, rv, ht, hz⟩ := I.tuple hT
  have hi : IntsAre its ns := rv.ints
  obtain ⟨ys, e⟩ := hi.allInts.items
  have hn : numsOf (intItems ys).toList = ns := by rw [← e]; exact hi.numsOf
  rw [nums_intItems] at hn
  rw [e] at ht
  have ht' : s.heap.IsTuple a (intItems ys) := ht
  have hlt : a < s.heap.objs.size := by obtain ⟨_, z, _⟩ := ht; exact Heap.lt_size z
  refine call_sum_walkG (wpAny_pyIter_tuple ht' ?_)
  refine ⟨_, _, _, _, _, _, numAt ys, rfl, Walks.tuple (A := X.A.in1) (I.ok.hd hc) _ a (Nat.ne_of_lt hlt) (intItems ys), ⟨⟨_, Heap.get?_push_size _ rfl, rfl, rfl⟩, ht'.push _⟩, ?_, (fun _ _ => intItems_at), ?_⟩
  · intro b hb
    show b < (s.heap.push _).objs.size
    rw [Heap.size_push]
    simp only [List.mem_cons, List.not_mem_nil, or_false] at hb
    rcases hb with rfl | rfl
    · exact Nat.lt_succ_self _
    · exact Nat.lt_succ_of_lt hlt
  · intro h' tk t' hk
    have eq : preSum (numAt ys) (intItems ys).size = ns.sum := by
      rw [preSum_eq, List.take_of_length_le (by simp [intItems]), hn]
    rw [eq]
    refine ⟨.int _, H, I.kept (t' := tk) (h' := h') ?_, ⟨_, rfl⟩, q⟩
    intro b o eb
    refine hk b o (fun hm => ?_) (Heap.get?_push_of_some _ eb)
    exact absurd (Heap.lt_size eb) ((List.mem_singleton.mp hm) ▸ Nat.lt_irrefl _)
end
theorem walk_zipT {K : PySem.W.Frag} {a b : Addr} {xs ys : List V} {n : Nat} (hn : n = min xs.length ys.length) :
    Walk (RZ.ItzT K a b) n (fun H => SqT K H a xs ∧ SqT K H b ys) (YPair (fun i => xs[i]?) (fun i => ys[i]?)) := by
  subst hn
  constructor
  · rintro i H hi ⟨q1, q2⟩
    have h1 : i < xs.length := by omega
    have h2 : i < ys.length := by omega
    exact ⟨xs, ys, xs[i], ys[i], q1, q2, by simp [h1], by simp [h2]⟩
  · rintro H ⟨q1, q2⟩
    exact ⟨xs, ys, q1, q2, by omega⟩
  · rintro i H v H' _ ⟨q1, q2⟩ ⟨T, x, z, h1, h2, h3, h4, h5⟩
    exact ⟨T, x, z, h1, h2, h3, h4 xs q1, h5 ys q2⟩
end Pv

namespace Pv
open PySem PySem.Spec PyProof.Rows L2

/-! tuples never change -/
def TupK (H H' : Hp) : Prop := ∀ b xs, Rd H b (.tup xs) → Rd H' b (.tup xs)
theorem TupK.refl (H : Hp) : TupK H H := fun _ _ h => h
theorem TupK.trans {H H1 H2 : Hp} (a : TupK H H1) (b : TupK H1 H2) : TupK H H2 := fun c xs h => b c xs (a c xs h)
theorem TupK.of {H H' : Hp} (s : Same H H') : TupK H H' := by
  rintro b xs (h | ⟨o, h⟩)
  · exact .inl (s _ _ h)
  · exact .inr ⟨o, s _ _ h⟩
theorem TupK.new {H : Hp} {p : Addr} {o : HO} (np : H p = none) : TupK H (upd H p o) := .of (sameNew np)
theorem TupK.put {H : Hp} {p : Addr} {o : HO} {ys : List V} (e : H p = some (.lst ys)) : TupK H (upd H p o) := by
  rintro b xs (h | ⟨u, h⟩)
  · exact .inl (by rw [upd_ne (ne_of h e (by intro z; cases z))]; exact h)
  · exact .inr ⟨u, by rw [upd_ne (ne_of h e (by intro z; cases z))]; exact h⟩
theorem TupK.sq {K : PySem.W.Frag} {H H' : Hp} {a : Addr} {xs : List V} (s : TupK H H') (h : SqT K H a xs) : SqT K H' a xs := by
  rcases h with h | h
  · exact .inl (s _ _ h)
  · exact .inr h

mutual
def tupOnly : PyData → Bool
  | .none | .bool _ | .int _ | .str _ => true
  | .tuple xs => tupOnlyAll xs
  | .list _ | .dict _ => false
def tupOnlyAll : List PyData → Bool
  | [] => true
  | x :: xs => tupOnly x && tupOnlyAll xs
end
mutual
theorem TupK.dp {K : PySem.W.Frag} {H H' : Hp} (s : TupK H H') : ∀ (d : PyData) (v : V), tupOnly d = true → Dp K H v d → Dp K H' v d
  | .none, v, _, h => by cases h; exact .non
  | .bool b, v, _, h => by cases h; exact .bl _
  | .int b, v, _, h => by cases h; exact .int _
  | .str b, v, _, h => by cases h; exact .str _
  | .tuple xs, v, t, h => by
    cases h with
    | tup hs ha => exact .tup (s.sq hs) (TupK.dpAll s xs _ (by simpa [tupOnly] using t) ha)
  | .list _, v, t, _ => by simp [tupOnly] at t
  | .dict _, v, t, _ => by simp [tupOnly] at t
theorem TupK.dpAll {K : PySem.W.Frag} {H H' : Hp} (s : TupK H H') : ∀ (ds : List PyData) (vs : List V), tupOnlyAll ds = true → DpAll K H vs ds → DpAll K H' vs ds
  | [], vs, _, h => by cases h; exact .nil
  | d :: ds, vs, t, h => by
    have t' : tupOnly d = true ∧ tupOnlyAll ds = true := by simpa [tupOnlyAll] using t
    cases h with
    | cons h1 h2 => exact .cons (TupK.dp s d _ t'.1 h1) (TupK.dpAll s ds _ t'.2 h2)
end
theorem tupOnlyAll_of {ds : List PyData} (h : ∀ d ∈ ds, tupOnly d = true) : tupOnlyAll ds = true := by
  induction ds with
  | nil => simp [tupOnlyAll]
  | cons d ds ih => simp [tupOnlyAll, h d (by simp), ih (fun e he => h e (by simp [he]))]

/-! data -/
abbrev Gp := List Int × Int
def dI (ns : List Int) : PyData := .tuple (ns.map .int)
def dGrp (g : Gp) : PyData := .tuple [dI g.1, .int g.2]
def dInst (cs : List Int) (gs : List Gp) : PyData := .tuple [dI cs, .tuple (gs.map dGrp)]
def dAsg (rows : List (List Int)) : PyData := .tuple (rows.map dI)
theorem to_ints (ns : List Int) : tupOnlyAll (ns.map PyData.int) = true := tupOnlyAll_of (by intro d hd; obtain ⟨n, _, rfl⟩ := List.mem_map.mp hd; simp [tupOnly])
theorem to_dI (ns : List Int) : tupOnly (dI ns) = true := by simp [dI, tupOnly, to_ints]
theorem to_dGrp (g : Gp) : tupOnly (dGrp g) = true := by simp [dGrp, tupOnly, tupOnlyAll, to_dI]
theorem to_grps (gs : List Gp) : tupOnlyAll (gs.map dGrp) = true := tupOnlyAll_of (by intro d hd; obtain ⟨n, _, rfl⟩ := List.mem_map.mp hd; exact to_dGrp n)
theorem to_rows (rs : List (List Int)) : tupOnlyAll (rs.map dI) = true := tupOnlyAll_of (by intro d hd; obtain ⟨n, _, rfl⟩ := List.mem_map.mp hd; exact to_dI n)
theorem to_dInst (cs : List Int) (gs : List Gp) : tupOnly (dInst cs gs) = true := by simp [dInst, tupOnly, tupOnlyAll, to_dI, to_grps]
theorem to_dAsg (rs : List (List Int)) : tupOnly (dAsg rs) = true := by simp [dAsg, tupOnly, to_rows]

section
variable {K : PySem.W.Frag} {H : Hp}
theorem DpAll.len : ∀ {vs : List V} {ds : List PyData}, DpAll K H vs ds → vs.length = ds.length
  | _, _, .nil => rfl
  | _, _, .cons _ t => by simp [DpAll.len t]
theorem DpAll.ints : ∀ {ns : List Int} {vs : List V}, DpAll K H vs (ns.map PyData.int) → vs = ns.map V.int
  | [], _, h => by cases h; rfl
  | n :: ns, _, h => by
    cases h with
    | cons h1 h2 => cases h1; rw [DpAll.ints h2]; rfl
theorem dp_ints : ∀ (ns : List Int), DpAll K H (ns.map V.int) (ns.map PyData.int)
  | [] => .nil
  | n :: ns => .cons (.int n) (dp_ints ns)
theorem DpAll.at : ∀ {vs : List V} {ds : List PyData} {i : Nat} {v : V}, DpAll K H vs ds → vs[i]? = some v → ∃ d, ds[i]? = some d ∧ Dp K H v d
  | _, _, _, _, .nil, e => by simp at e
  | _, _, 0, _, .cons h _, e => by simp at e; subst e; exact ⟨_, rfl, h⟩
  | _, _, i + 1, v, .cons _ t, e => by
    obtain ⟨d, h1, h2⟩ := DpAll.at (i := i) t (by simpa using e)
    exact ⟨d, by simpa using h1, h2⟩
theorem DpAll.snoc : ∀ {vs : List V} {ds : List PyData} {v : V} {d : PyData}, DpAll K H vs ds → Dp K H v d → DpAll K H (vs ++ [v]) (ds ++ [d])
  | _, _, _, _, .nil, h => .cons h .nil
  | _, _, _, _, .cons h t, h' => .cons h (DpAll.snoc t h')
theorem sq_dI {a : Addr} {ns : List Int} (h : Dp K H (.ref a) (dI ns)) : SqT K H a (ns.map V.int) := by
  cases h with
  | tup hs ha => rw [DpAll.ints ha] at hs; exact hs
theorem dI_sq {a : Addr} {ns : List Int} (h : SqT K H a (ns.map V.int)) : Dp K H (.ref a) (dI ns) := .tup h (dp_ints ns)
theorem dI_ref {v : V} {ns : List Int} (h : Dp K H v (dI ns)) : ∃ a, v = .ref a ∧ SqT K H a (ns.map V.int) := by
  cases h with
  | tup hs ha => rw [DpAll.ints ha] at hs; exact ⟨_, rfl, hs⟩
theorem grp_ref {v : V} {g : Gp} (h : Dp K H v (dGrp g)) : ∃ a p, v = .ref a ∧ SqT K H a [.ref p, .int g.2] ∧ SqT K H p (g.1.map V.int) := by
  cases h with
  | tup hs ha =>
    cases ha with
    | cons h1 h2 =>
      cases h2 with
      | cons h3 h4 =>
        cases h4
        cases h3
        obtain ⟨p, rfl, hp⟩ := dI_ref h1
        exact ⟨_, p, rfl, hs, hp⟩
theorem inst_open {v : V} {cs : List Int} {gs : List Gp} (h : Dp K H v (dInst cs gs)) :
    ∃ a c g xs, v = .ref a ∧ SqT K H a [.ref c, .ref g] ∧ SqT K H c (cs.map V.int) ∧ SqT K H g xs ∧ DpAll K H xs (gs.map dGrp) := by
  cases h with
  | tup hs ha =>
    cases ha with
    | cons h1 h2 =>
      cases h2 with
      | cons h3 h4 =>
        cases h4
        obtain ⟨c, rfl, hc⟩ := dI_ref h1
        cases h3 with
        | tup hg hx => exact ⟨_, c, _, _, rfl, hs, hc, hg, hx⟩
theorem asg_open {v : V} {rs : List (List Int)} (h : Dp K H v (dAsg rs)) : ∃ a xs, v = .ref a ∧ SqT K H a xs ∧ DpAll K H xs (rs.map dI) := by
  cases h with
  | tup hg hx => exact ⟨_, _, rfl, hg, hx⟩
end

/-! what repr wants of data -/
structure Fine (k B : Nat) (d : PyData) : Prop where
  sh : d.showable = true
  nd : d.hasDict = false
  dp : d.depth ≤ k
  ln : d.shown.length ≤ B
theorem Fine.mono {k k' B B' : Nat} {d : PyData} (h : Fine k B d) (hk : k ≤ k') (hB : B ≤ B') : Fine k' B' d := ⟨h.sh, h.nd, Nat.le_trans h.dp hk, Nat.le_trans h.ln hB⟩
theorem fine_int {i : Int} (h : i.natAbs < 10 ^ 20) : Fine 0 25 (.int i) := by
  refine ⟨?_, by simp [PyData.hasDict], by simp [PyData.depth], ?_⟩
  · simp only [PyData.showable, decide_eq_true_eq]
    have : i.natAbs.log2 < 100 := by
      by_cases h0 : i.natAbs = 0
      · rw [h0]; decide
      · exact (Nat.log2_lt h0).mpr (Nat.lt_trans h (by decide))
    omega
  · have e := int_text_length_le10 (k := 20) (by decide) h
    show (Str.ofString (toString i)).length ≤ 25
    rw [PySem.ofString_length]
    omega
theorem fine_all {k B : Nat} : ∀ {xs : List PyData}, (∀ x ∈ xs, Fine k B x) → PyData.showableAll xs = true ∧ PyData.hasDictAll xs = false ∧ PyData.depthAll xs ≤ k ∧ ((PyData.shownAll xs).map (·.length)).sum ≤ xs.length * B ∧ (PyData.shownAll xs).length = xs.length
  | [], _ => by simp [PyData.showableAll, PyData.hasDictAll, PyData.depthAll, PyData.shownAll]
  | x :: xs, h => by
    obtain ⟨h1, h2, h3, h4, h5⟩ := fine_all (xs := xs) (fun y hy => h y (by simp [hy]))
    have hx := h x (by simp)
    refine ⟨by simp [PyData.showableAll, hx.sh, h1], by simp [PyData.hasDictAll, hx.nd, h2], ?_, ?_, ?_⟩
    · simp only [PyData.depthAll]; have := hx.dp; omega
    · simp only [PyData.shownAll, List.map_cons, List.sum_cons, List.length_cons]; have := hx.ln; rw [Nat.succ_mul]; omega
    · simp [PyData.shownAll, h5]
theorem fine_tup {k B n : Nat} {xs : List PyData} (h : ∀ x ∈ xs, Fine k B x) (hn : xs.length ≤ n) : Fine (k + 1) (n * (B + 2) + 3) (.tuple xs) := by
  obtain ⟨h1, h2, h3, h4, h5⟩ := fine_all h
  refine ⟨by simp only [PyData.showable]; exact h1, by simp only [PyData.hasDict]; exact h2, by simp only [PyData.depth]; omega, ?_⟩
  simp only [PyData.shown]
  have e := tupleText_len_le (PyData.shownAll xs)
  rw [h5] at e
  have m : xs.length * (B + 2) ≤ n * (B + 2) := Nat.mul_le_mul_right _ hn
  rw [Nat.mul_add] at m
  omega
theorem fine_lst {k B n : Nat} {xs : List PyData} (h : ∀ x ∈ xs, Fine k B x) (hn : xs.length ≤ n) : Fine (k + 1) (n * (B + 2) + 3) (.list xs) := by
  obtain ⟨h1, h2, h3, h4, h5⟩ := fine_all h
  refine ⟨by simp only [PyData.showable]; exact h1, by simp only [PyData.hasDict]; exact h2, by simp only [PyData.depth]; omega, ?_⟩
  simp only [PyData.shown]
  have e := listText_len_le (PyData.shownAll xs)
  rw [h5] at e
  have m : xs.length * (B + 2) ≤ n * (B + 2) := Nat.mul_le_mul_right _ hn
  rw [Nat.mul_add] at m
  omega
theorem fine_dI {ns : List Int} {n : Nat} (h : ∀ i ∈ ns, i.natAbs < 10 ^ 20) (hn : ns.length ≤ n) : Fine 1 (n * 27 + 3) (dI ns) := by
  refine fine_tup (B := 25) ?_ (by simpa using hn)
  intro d hd
  obtain ⟨i, hi, rfl⟩ := List.mem_map.mp hd
  exact fine_int (h i hi)

/-! the drawing state of the law: a list of the cells, the rests and the turn -/
structure DS (H : Hp) (st c r : Addr) (t : Nat) : Prop where
  hs : H st = some (.lst [.ref c, .ref r, .int t])
  ex : ∃ cells rests : List Int, H c = some (.lst (cells.map V.int)) ∧ H r = some (.lst (rests.map V.int)) ∧ cells.length = rests.length ∧
    0 < cells.length ∧ cells.length ≤ 100 ∧ ∀ x ∈ rests, 0 ≤ x
  n1 : c ≠ r
  n2 : st ≠ c
  n3 : st ≠ r
def Ext (st r : Addr) (H H' : Hp) : Prop := ∀ b o, H b = some o → b ≠ st → b ≠ r → H' b = some o
section
variable {H H1 H2 : Hp} {st c r p : Addr} {t : Nat} {o : HO}
theorem Ext.trans (a : Ext st r H H1) (b : Ext st r H1 H2) : Ext st r H H2 := fun x o h n1 n2 => b x o (a x o h n1 n2) n1 n2
theorem Ext.of (s : Same H H1) : Ext st r H H1 := fun b o h _ _ => s b o h
theorem Ext.tup (d : DS H st c r t) (e : Ext st r H H1) : TupK H H1 := by
  obtain ⟨cells, rests, hc, hr, _⟩ := d.ex
  rintro b xs (h | ⟨u, h⟩)
  · exact .inl (e _ _ h (ne_of h d.hs (by intro z; cases z)) (ne_of h hr (by intro z; cases z)))
  · exact .inr ⟨u, e _ _ h (ne_of h d.hs (by intro z; cases z)) (ne_of h hr (by intro z; cases z))⟩
theorem DS.same (d : DS H st c r t) (s : Same H H1) : DS H1 st c r t := by
  obtain ⟨cells, rests, hc, hr, q⟩ := d.ex
  exact ⟨s _ _ d.hs, ⟨cells, rests, s _ _ hc, s _ _ hr, q⟩, d.n1, d.n2, d.n3⟩
theorem DS.new (d : DS H st c r t) (np : H p = none) : DS (upd H p o) st c r t := d.same (sameNew np)
theorem DS.put (d : DS H st c r t) (h1 : p ≠ st) (h2 : p ≠ c) (h3 : p ≠ r) : DS (upd H p o) st c r t := by
  obtain ⟨cells, rests, hc, hr, q⟩ := d.ex
  exact ⟨by rw [upd_ne h1.symm]; exact d.hs, ⟨cells, rests, by rw [upd_ne h2.symm]; exact hc, by rw [upd_ne h3.symm]; exact hr, q⟩, d.n1, d.n2, d.n3⟩
/-- an address that was free while the state stood is none of its own -/
theorem DS.off (d : DS H st c r t) (np : H p = none) : p ≠ st ∧ p ≠ c ∧ p ≠ r := by
  obtain ⟨cells, rests, hc, hr, q⟩ := d.ex
  exact ⟨(ne_of_none d.hs np).symm, (ne_of_none hc np).symm, (ne_of_none hr np).symm⟩
end
end Pv

namespace Pv
open PySem PySem.Spec PyProof.Rows L2
/-! enumerate of a tuple -/
theorem enumT_new (l : Addr) (items : Array Value) (n : Nat) (dct : Option Addr) (sl : Array (Option Value)) :
    Meets (Builtin.«enumerate.__new__» ⟨[.type "enumerate", .ref l], []⟩) (fun _ R s =>
      s.heap.get? l = some { cls := .type "tuple", dict := dct, data := .seq items n, slots := sl } ∧
      R (.ok (.ret (.ref (s.heap.push { cls := .type "tuple_iterator", data := .fields #[.ref l, .int 0 0] }).objs.size)))
        { s with heap := Heap.push (s.heap.push { cls := .type "tuple_iterator", data := .fields #[.ref l, .int 0 0] }) { cls := .type "enumerate", data := .fields #[.none, .bool false, .ref s.heap.objs.size, rawInt 0, .none, .none] } }) :=
  .of_wp fun prog w A R s h => by
    obtain ⟨hp, g, d, tk, os⟩ := s
    obtain ⟨hl, h⟩ := h
    have hsub := sub_enumerate
    have hL : Heap.IsTuple (Shared.heap ⟨hp, g, d, tk, os⟩) l items := ⟨_, hl, rfl, n, rfl⟩
    wp_walk using AutoSeq1.wpAny_loadPart' hl
    refine wpAny_stack_any fun st => wpAny_pure ?_
    split
    · rename_i c _ _ _ _ _
      cases (c == Value.type "enumerate") <;>
        (wp_walk using AutoSeq1.wpAny_loadPart' hl, wpAny_pyIter_tuple hL; exact ⟨_, rfl, h⟩)
    · wp_walk using AutoSeq1.wpAny_loadPart' hl, wpAny_pyIter_tuple hL
      exact ⟨_, rfl, h⟩
theorem call_enumT {prog : Program} {w : World} {A : Around} {E : Value → Shared → Prop} {s : Shared} {l : Addr} {items : Array Value} {Q : Value → Shared → Prop} (hL : s.heap.IsTuple l items)
    (h : ∀ h', IsEnum h' (s.heap.objs.size + 1) s.heap.objs.size 0 .none → h'.IsTupleIter s.heap.objs.size l 0 →
      (∀ b o, s.heap.get? b = some o → h'.get? b = some o) → Q (.ref (s.heap.objs.size + 1)) { s with heap := h' }) :
    wpAny (model prog w) A (call (.type "enumerate") [.ref l]) Q E s := by
  obtain ⟨⟨c, dct, dt, sl⟩, hl, hc, n, hd⟩ := hL
  simp only at hc hd
  subst hc hd
  refine callType_new F.called_enumerate (by decide) (F.typeCall_enumerate_1 _) (F.newCall_enumerate_1 _) (fun obj => F.args_object_init_2 obj _) F.entry_enumerate_new (enumT_new l items n dct sl) ⟨hl, ?_⟩
  have hz : (s.heap.push { cls := .type "tuple_iterator", data := .fields #[.ref l, .int 0 0] }).objs.size = s.heap.objs.size + 1 := Heap.size_push ..
  show _ ∧ _
  rw [hz]
  have ge : IsEnum (Heap.push (s.heap.push { cls := .type "tuple_iterator", data := .fields #[.ref l, .int 0 0] }) { cls := .type "enumerate", data := .fields #[.none, .bool false, .ref s.heap.objs.size, rawInt 0, .none, .none] }) (s.heap.objs.size + 1) s.heap.objs.size 0 .none := by
    rw [← hz]
    exact Heap.get?_push_size _ rfl
  exact ⟨⟨_, ge, rfl⟩, h _ ge ⟨_, Heap.get?_push_of_some _ (Heap.get?_push_size _ rfl), rfl, rfl⟩ fun b o x => Heap.get?_push_of_some _ (Heap.get?_push_of_some _ x)⟩
def IteT (K : PySem.W.Frag) (a : Addr) : It :=
  ⟨fun i H => ∃ (xs : List V) (x : V), SqT K H a xs ∧ xs[i]? = some x,
   fun i H v H' => ∃ T x, v = .ref T ∧ H T = none ∧ H' = upd H T (.tup [.int (i : Nat), x]) ∧ ∀ xs, SqT K H a xs → xs[i]? = some x,
   fun i H => ∃ xs : List V, SqT K H a xs ∧ xs.length = i⟩
theorem tupLt {h : Heap} {a : Addr} {its : Array Value} (p : IsTup h a its) : a < h.objs.size := by obtain ⟨_, e, _⟩ := p; exact Heap.lt_size e
theorem turn_enumT {P : Program} {w : World} {K : PySem.W.Frag} {elts : List Expr} {kk : Nat} {tpos : Pos} (a e it : Addr) :
    Turn P w K (.Tuple elts kk tpos) (IteT K a) [e, it] e (fun i h => (∃ old, IsEnum h e it ((i : Nat) : Int) old) ∧ h.IsTupleIter it a i ∧ e ≠ it) where
  mem := by simp
  obj := by
    rintro i h ⟨⟨old, he⟩, ⟨o, ho, hc, hd⟩, _⟩ b hb
    simp only [List.mem_cons, List.not_mem_nil, or_false] at hb
    rcases hb with rfl | rfl
    · exact ⟨_, he, fun v q => nomatch q⟩
    · exact ⟨o, ho, fun v q => by rw [hd] at q; cases q⟩
  keep := by
    rintro i h h' ⟨⟨old, he⟩, hi, hne⟩ k
    exact ⟨⟨old, k e (by simp) _ he⟩, hi.at fun o q => k it (by simp) o q, hne⟩
  item := by
    intro X hP hw hK hc i pins s σ H E I hf st hg
    subst hP hw hK
    obtain ⟨⟨old, he⟩, hit, hne⟩ := st
    obtain ⟨xs, x, hq, hx⟩ := hg
    obtain ⟨its, rv, p, hz⟩ := I.tuple hq
    obtain ⟨u, hu, ru⟩ := rv.get hx
    have hel : e < s.heap.objs.size := Heap.lt_size he
    have hil : it < s.heap.objs.size := by obtain ⟨_, q, _⟩ := hit; exact Heap.lt_size q
    have nea : e ≠ a := by
      rintro rfl
      obtain ⟨o, ho, hcl, _⟩ := p
      rw [he] at ho
      cases ho
      injection hcl with hcl
      exact absurd hcl (by decide)
    have nia : a ≠ it := by
      rintro rfl
      obtain ⟨o, ho, hcl, _⟩ := p
      obtain ⟨o2, ho2, hcl2, _⟩ := hit
      rw [ho] at ho2
      cases ho2
      rw [hcl] at hcl2
      injection hcl2 with hcl2
      exact absurd hcl2 (by decide)
    have hlt : i < its.toArray.size := by have := (List.getElem?_eq_some_iff.mp hu).1; simpa using this
    refine wpAny_pyNext_enum_itemD (Draws.tuple (A := X.A.in1) (I.ok.hd hc) it a nia its.toArray) he ⟨hit, p⟩ hlt hne (by simp [hne, nea]) ?_
    intro u' h' tk hu' ho st' hT hsz hk
    have hu2 : its.toArray[i]? = some u' := hu'
    have : u' = u := by
      have h3 : its.toArray[i]? = some u := by simpa using hu
      rw [h3] at hu2
      exact (Option.some.inj hu2).symm
    subst this
    refine ⟨_, rfl, wpAny_letOwnedTupleGo_enum (s := { s with heap := h', toks := tk + 1 }) ho fun h'' he' sb => ?_⟩
    have hT2 : h''.get? s.heap.objs.size = some { cls := .type "tuple", data := .seq #[.int i tk, u'] } := (sb.2 _ (Nat.ne_of_gt hel)).trans hT
    have new : ObjOk X.prog X.w (upd H s.heap.objs.size (.tup [.int (i : Nat), x])) h'' s.heap.objs.size (.tup [.int (i : Nat), x]) :=
      ⟨by show 2 ≤ sizeLine; decide, [.int i tk, u'], .cons ⟨_, rfl⟩ (.cons ru .nil), ⟨_, hT2, rfl, _, rfl⟩⟩
    have kk : ∀ b ob, b ∉ [e, it] → s.heap.get? b = some ob → h''.get? b = some ob := by
      intro b ob hb q
      have h1 : b ≠ e := fun z => hb (by simp [z])
      have h2 : b ≠ it := fun z => hb (by simp [z])
      exact (sb.2 b h1).trans (hk b ob h1 h2 q)
    have I1 : Inv X pins σ (upd H s.heap.objs.size (.tup [.int (i : Nat), x])) { s with heap := h'', toks := tk + 1 } :=
      I.turnedNew (ch := [e, it]) kk hf (Nat.le_refl _) new
    refine ⟨.ref s.heap.objs.size, _, I1, rfl, ⟨_, x, rfl, I.hok.fresh (Nat.le_refl _), rfl, fun ys hy => by rw [I.tuple_inj hy hq]; exact hx⟩, ⟨⟨u', ?_⟩, st'.1.at fun o q => (sb.2 it (Ne.symm hne)).trans q, hne⟩, fun b hb => ?_⟩
    · rw [show ((i + 1 : Nat) : Int) = (i : Int) + 1 by omega]; exact he'
    · have hb' : b < s.heap.objs.size := by
        simp only [List.mem_cons, List.not_mem_nil, or_false] at hb
        rcases hb with rfl | rfl <;> assumption
      rw [upd_ne (Nat.ne_of_lt hb')]
      exact (hf b hb).1
  done := by
    intro X hP hw hK hc i pins s σ H E I hf st hg
    subst hP hw hK
    obtain ⟨⟨old, he⟩, hit, hne⟩ := st
    obtain ⟨xs, hq, hx⟩ := hg
    obtain ⟨its, rv, p, hz⟩ := I.tuple hq
    obtain ⟨f0, f1, f2, f3, f4, f5⟩ := hf it (by simp)
    have hl := rv.length
    have nia : a ≠ it := by
      rintro rfl
      obtain ⟨o, ho, hcl, _⟩ := p
      obtain ⟨o2, ho2, hcl2, _⟩ := hit
      rw [ho] at ho2
      cases ho2
      rw [hcl] at hcl2
      injection hcl2 with hcl2
      exact absurd hcl2 (by decide)
    have hi : i = its.toArray.size := by rw [List.size_toArray]; omega
    refine wpAny_pyNext_enum_endD (Draws.tuple (A := X.A.in1) (I.ok.hd hc) it a nia its.toArray) he (by rw [← hi]; exact ⟨hit, p⟩) fun h' eb => ⟨rfl, I.turned (t' := s.toks) (fun b o hb q => eb b o hb q) f0 f1 f3 f4 f5⟩
  self := by
    rintro A i s Q E ⟨⟨_, he⟩, _⟩ h
    exact wpAny_pyIter_enum he h
def iEnumT (K : PySem.W.Frag) (ta : TA) : TI := fun σ H R => ta σ H fun vs H1 => ∃ a xs, vs = [.ref a] ∧ SqT K H1 a xs ∧ R (IteT K a) H1
theorem pi_enumT {X : Cx} {e : Expr} {ta : TA} {p pos tpos : Pos} {elts : List Expr} {kk : Nat} (hg : Gl X "enumerate") (hm : X.mg "enumerate" = none) (ha : PA X [e] ta)
    (hs : starEach [e] X.env = [(false, eval e X.env)] := by rfl) : PI X (.Tuple elts kk tpos) (.Call (.Name "enumerate" p) [e] [] pos) (iEnumT X.K ta) := by
  constructor
  intro pins s σ H R I h
  refine Call_ (ld_blt I hg hm boot_enumerate (PyProof.Rows.callWith_type1 (thn (ha.run pos pins s σ H _ I h) ?_) hs rfl))
  rintro us s1 ⟨vs, H1, I1, r1, a, xs, rfl, hq, q⟩
  obtain ⟨u, rfl, rfl⟩ := vals1 r1
  obtain ⟨its, rv, p', hz⟩ := I1.tuple hq
  refine call_enumT (show s1.heap.IsTuple a its.toArray from p') fun h' he hit hk => wpAny_pyIter_enum he ?_
  have I2 : Inv X pins σ H1 { s1 with heap := h' } := I1.kept (t' := s1.toks) hk
  refine ⟨s1.heap.objs.size + 1, [s1.heap.objs.size + 1, s1.heap.objs.size], _, _, H1, rfl, I2, turn_enumT a (s1.heap.objs.size + 1) s1.heap.objs.size, ⟨⟨.none, he⟩, hit, Nat.succ_ne_self _⟩, ?_, q⟩
  intro b hb
  have hle : s1.heap.objs.size ≤ b := by
    simp only [List.mem_cons, List.not_mem_nil, or_false] at hb
    rcases hb with rfl | rfl <;> omega
  exact I1.fpOk hle (I1.hok.fresh hle)
theorem walk_enumT {K : PySem.W.Frag} {a : Addr} {xs : List V} : Walk (IteT K a) xs.length (fun H => SqT K H a xs) (YPair (fun i => some (.int (i : Nat))) (fun i => xs[i]?)) := by
  constructor
  · intro i H hi q
    exact ⟨xs, xs[i], q, by simp [hi]⟩
  · intro H q
    exact ⟨xs, q, rfl⟩
  · rintro i H v H' _ q ⟨T, x, h1, h2, h3, h4⟩
    exact ⟨T, _, x, h1, h2, h3, rfl, h4 xs q⟩
/-! zip of a list and a tuple -/
abbrev zm1 (h : Heap) (l1 : Addr) : Heap := h.push { cls := .type "list_iterator", data := .fields #[.ref l1, .int 0 0] }
abbrev zm2 (h : Heap) (l1 l2 : Addr) : Heap := (zm1 h l1).push { cls := .type "tuple_iterator", data := .fields #[.ref l2, .int 0 0] }
abbrev zm3 (h : Heap) (l1 l2 : Addr) : Heap := (zm2 h l1 l2).push { cls := .type "tuple", data := .seq #[.ref h.objs.size, .ref (zm1 h l1).objs.size] }
abbrev zm4 (h : Heap) (l1 l2 : Addr) : Heap := (zm3 h l1 l2).push { cls := .type "tuple", data := .seq #[.none, .none] }
abbrev zm5 (h : Heap) (l1 l2 : Addr) : Heap := (zm4 h l1 l2).push { cls := .type "zip", data := .fields #[.none, .bool false, .bool false, .ref (zm2 h l1 l2).objs.size, .ref (zm3 h l1 l2).objs.size] }
theorem zipM_new (l1 l2 : Addr) (xs ys : Array Value) :
    Meets (Builtin.«zip.__new__» ⟨[.type "zip", .ref l1, .ref l2], []⟩) (fun _ R s => s.heap.IsList l1 xs ∧ s.heap.IsTuple l2 ys ∧
      R (.ok (.ret (.ref (zm4 s.heap l1 l2).objs.size))) { s with heap := zm5 s.heap l1 l2 }) :=
  .of_wp fun prog w A R s h => by
    obtain ⟨hp, g, d, tk, os⟩ := s
    obtain ⟨hl1, hl2, h⟩ := h
    have hsub := sub_zip
    have hL1 : Heap.IsList (Shared.heap ⟨hp, g, d, tk, os⟩) l1 xs := hl1
    have hL2 : Heap.IsTuple (Shared.heap ⟨zm1 hp l1, g, d, tk, os⟩) l2 ys := Heap.IsTuple.push hl2 _
    wp_walk using wpAny_pyIter_list hL1, wpAny_pyIter_tuple hL2
    exact ⟨_, rfl, h⟩
theorem call_zipM {prog : Program} {w : World} {A : Around} {E : Value → Shared → Prop} {s : Shared} {l1 l2 : Addr} {xs ys : Array Value} {Q : Value → Shared → Prop} (hl1 : s.heap.IsList l1 xs) (hl2 : s.heap.IsTuple l2 ys)
    (h : ∀ h', IsZip h' (s.heap.objs.size + 4) (s.heap.objs.size + 2) (s.heap.objs.size + 3) .none → IsPair h' (s.heap.objs.size + 2) (.ref s.heap.objs.size) (.ref (s.heap.objs.size + 1)) →
      IsPair h' (s.heap.objs.size + 3) .none .none → h'.IsListIter s.heap.objs.size l1 0 → h'.IsTupleIter (s.heap.objs.size + 1) l2 0 →
      (∀ c o, s.heap.get? c = some o → h'.get? c = some o) → Q (.ref (s.heap.objs.size + 4)) { s with heap := h' }) :
    wpAny (model prog w) A (call (.type "zip") [.ref l1, .ref l2]) Q E s := by
  refine callType_new F.called_zip (by decide) (F.typeCall_zip_2 _ _) (F.newCall_zip_2 _ _) (fun obj => F.args_object_init_3 obj _ _) F.entry_zip_new (zipM_new l1 l2 xs ys) ⟨hl1, hl2, ?_⟩
  have z1 : (zm1 s.heap l1).objs.size = s.heap.objs.size + 1 := Heap.size_push ..
  have z2 : (zm2 s.heap l1 l2).objs.size = s.heap.objs.size + 2 := by rw [Heap.size_push, z1]
  have z3 : (zm3 s.heap l1 l2).objs.size = s.heap.objs.size + 3 := by rw [Heap.size_push, z2]
  have z4 : (zm4 s.heap l1 l2).objs.size = s.heap.objs.size + 4 := by rw [Heap.size_push, z3]
  have g5 : (zm5 s.heap l1 l2).get? (zm4 s.heap l1 l2).objs.size = some _ := Heap.get?_push_size _ rfl
  have g4 : (zm5 s.heap l1 l2).get? (zm3 s.heap l1 l2).objs.size = some _ := Heap.get?_push_of_some _ (Heap.get?_push_size _ rfl)
  have g3 : (zm5 s.heap l1 l2).get? (zm2 s.heap l1 l2).objs.size = some _ := Heap.get?_push_of_some _ (Heap.get?_push_of_some _ (Heap.get?_push_size _ rfl))
  have g2 : (zm5 s.heap l1 l2).get? (zm1 s.heap l1).objs.size = some _ := Heap.get?_push_of_some _ (Heap.get?_push_of_some _ (Heap.get?_push_of_some _ (Heap.get?_push_size _ rfl)))
  have g1 : (zm5 s.heap l1 l2).get? s.heap.objs.size = some _ := Heap.get?_push_of_some _ (Heap.get?_push_of_some _ (Heap.get?_push_of_some _ (Heap.get?_push_of_some _ (Heap.get?_push_size _ rfl))))
  show _ ∧ _
  rw [z2, z3, z4] at g5
  rw [z1, z2] at g3
  rw [z3] at g4
  rw [z1] at g2
  rw [z4]
  refine ⟨⟨_, g5, rfl⟩, h _ g5 g3 g4 ⟨_, g1, rfl, rfl⟩ ⟨_, g2, rfl, rfl⟩ ?_⟩
  intro c o x
  exact Heap.get?_push_of_some _ (Heap.get?_push_of_some _ (Heap.get?_push_of_some _ (Heap.get?_push_of_some _ (Heap.get?_push_of_some _ x))))
def ItzM (K : PySem.W.Frag) (a b : Addr) : It :=
  ⟨fun i H => ∃ (xs ys : List V) (x y : V), SqL K H a xs ∧ SqT K H b ys ∧ xs[i]? = some x ∧ ys[i]? = some y,
   fun i H v H' => ∃ T x y, v = .ref T ∧ H T = none ∧ H' = upd H T (.tup [x, y]) ∧ (∀ xs, SqL K H a xs → xs[i]? = some x) ∧ ∀ ys, SqT K H b ys → ys[i]? = some y,
   fun i H => ∃ xs ys : List V, SqL K H a xs ∧ SqT K H b ys ∧ min xs.length ys.length = i⟩
theorem sepM {z TI TO i1 i2 a b : Addr} (D : ZipApart z TI TO i1 i2 a b) : ZipSep2 z TI TO i1 i2 [i1, a] [i2, b] := by
  refine ⟨D.TIz, D.TOz, D.TITO, D.TIi1, by simp, ?_, ?_, D.TIi2, by simp, ?_, ?_, ?_, ?_⟩ <;>
    simp only [List.mem_cons, List.not_mem_nil, or_false, not_or]
  · exact ⟨D.i1z.symm, D.l1z.symm⟩
  · exact ⟨D.TOi1, D.l1TO.symm⟩
  · exact ⟨D.i2z.symm, D.l2z.symm⟩
  · exact ⟨D.TOi2, D.l2TO.symm⟩
  · exact ⟨D.i12, D.l2i1.symm⟩
  · exact ⟨D.i12.symm, D.l1i2.symm⟩
theorem turn_zipM {P : Program} {w : World} {K : PySem.W.Frag} {elts : List Expr} {kk : Nat} {tpos : Pos} {a b z TI TO i1 i2 : Addr} (D : ZipApart z TI TO i1 i2 a b) :
    Turn P w K (.Tuple elts kk tpos) (ItzM K a b) [z, TI, TO, i1, i2] z
      (fun i h => IsZip h z TI TO .none ∧ IsPair h TI (.ref i1) (.ref i2) ∧ (∃ x y, IsPair h TO x y) ∧ h.IsListIter i1 a i ∧ h.IsTupleIter i2 b i) where
  mem := by simp
  obj := by
    rintro i h ⟨hz, hTI, ⟨x, y, hTO⟩, ⟨o1, e1, _, d1⟩, ⟨o2, e2, _, d2⟩⟩ c hc
    simp only [List.mem_cons, List.not_mem_nil, or_false] at hc
    rcases hc with rfl | rfl | rfl | rfl | rfl
    · exact ⟨_, hz, fun v q => nomatch q⟩
    · exact ⟨_, hTI, fun v q => nomatch q⟩
    · exact ⟨_, hTO, fun v q => nomatch q⟩
    · exact ⟨o1, e1, fun v q => by rw [d1] at q; cases q⟩
    · exact ⟨o2, e2, fun v q => by rw [d2] at q; cases q⟩
  keep := by
    rintro i h h' ⟨hz, hTI, ⟨x, y, hTO⟩, h1, h2⟩ k
    exact ⟨k z (by simp) _ hz, k TI (by simp) _ hTI, ⟨x, y, k TO (by simp) _ hTO⟩, h1.at fun o q => k i1 (by simp) o q, h2.at fun o q => k i2 (by simp) o q⟩
  item := by
    intro X hP hw hK hc i pins s σ H E I hf st hg
    subst hP hw hK
    obtain ⟨hz, hTI, ⟨x0, y0, hTO⟩, h1, h2⟩ := st
    obtain ⟨xs, ys, x, y, hqx, hqy, hx, hy⟩ := hg
    obtain ⟨its, rv, p, _⟩ := I.list hqx
    obtain ⟨its2, rv2, p2, _⟩ := I.tuple hqy
    obtain ⟨u, hu, ru⟩ := rv.get hx
    obtain ⟨u2, hu2, ru2⟩ := rv2.get hy
    have hzl : z < s.heap.objs.size := Heap.lt_size hz
    have hl1 : i < its.toArray.size := by have := (List.getElem?_eq_some_iff.mp hu).1; simpa using this
    have hl2 : i < its2.toArray.size := by have := (List.getElem?_eq_some_iff.mp hu2).1; simpa using this
    refine wpAny_pyNext_zipD2_item (sepM D) (Draws.list (A := X.A.in1) (I.ok.hd hc) i1 a D.l1i1 its.toArray) (Draws.tuple (A := X.A.in1) (I.ok.hd hc) i2 b D.l2i2 its2.toArray) hz hTI hTO ⟨h1, p.isList⟩ ⟨h2, p2⟩ hl1 hl2 ?_
    intro v1 v2 h' tk hv1 hv2 z' TO' st1 st2 hT hsz hk
    have e1 : v1 = u := by
      have h3 : its.toArray[i]? = some u := by simpa using hu
      rw [show its.toArray[i]? = some v1 from hv1] at h3
      exact Option.some.inj h3
    have e2 : v2 = u2 := by
      have h3 : its2.toArray[i]? = some u2 := by simpa using hu2
      rw [show its2.toArray[i]? = some v2 from hv2] at h3
      exact Option.some.inj h3
    subst e1 e2
    refine ⟨_, rfl, wpAny_letOwnedTupleGo_zip (s := { s with heap := h', toks := tk }) z' fun h'' z'' sb => ?_⟩
    have hT2 : h''.get? s.heap.objs.size = some { cls := .type "tuple", data := .seq #[v1, v2] } := (sb.2 _ (Nat.ne_of_gt hzl)).trans hT
    have new : ObjOk X.prog X.w (upd H s.heap.objs.size (.tup [x, y])) h'' s.heap.objs.size (.tup [x, y]) :=
      ⟨by show 2 ≤ sizeLine; decide, [v1, v2], .cons ru (.cons ru2 .nil), ⟨_, hT2, rfl, _, rfl⟩⟩
    have kk : ∀ c o, c ∉ [z, TI, TO, i1, i2] → s.heap.get? c = some o → h''.get? c = some o := by
      intro c o hb q
      simp only [List.mem_cons, List.not_mem_nil, or_false, not_or] at hb
      exact (sb.2 c hb.1).trans (hk c o hb.1 hb.2.2.1 hb.2.2.2.1 hb.2.2.2.2 q)
    have I1 : Inv X pins σ (upd H s.heap.objs.size (.tup [x, y])) { s with heap := h'', toks := tk } :=
      I.turnedNew (t' := tk) (ch := [z, TI, TO, i1, i2]) kk hf (Nat.le_refl _) new
    refine ⟨.ref s.heap.objs.size, _, I1, rfl, ⟨_, x, y, rfl, I.hok.fresh (Nat.le_refl _), rfl, fun l hl => by rw [I.list_inj hl hqx]; exact hx, fun l hl => by rw [I.tuple_inj hl hqy]; exact hy⟩, ⟨z'', ?_, ⟨v1, v2, ?_⟩, ?_, ?_⟩, ?_⟩
    · exact (sb.2 _ D.TIz).trans (hk _ _ D.TIz D.TITO D.TIi1 D.TIi2 hTI)
    · exact (sb.2 _ D.TOz).trans TO'
    · exact st1.1.at fun o q => (sb.2 _ D.i1z).trans q
    · exact st2.1.at fun o q => (sb.2 _ D.i2z).trans q
    · intro c hcm
      have hlt : c < s.heap.objs.size := by
        simp only [List.mem_cons, List.not_mem_nil, or_false] at hcm
        rcases hcm with rfl | rfl | rfl | rfl | rfl
        · exact hzl
        · exact Heap.lt_size hTI
        · exact Heap.lt_size hTO
        · obtain ⟨_, e1, _⟩ := h1; exact Heap.lt_size e1
        · obtain ⟨_, e2, _⟩ := h2; exact Heap.lt_size e2
      rw [upd_ne (Nat.ne_of_lt hlt)]
      exact (hf c hcm).1
  done := by
    intro X hP hw hK hc i pins s σ H E I hf st hg
    subst hP hw hK
    obtain ⟨hz, hTI, ⟨x0, y0, hTO⟩, h1, h2⟩ := st
    obtain ⟨xs, ys, hqx, hqy, hend⟩ := hg
    obtain ⟨its, rv, p, _⟩ := I.list hqx
    obtain ⟨its2, rv2, p2, _⟩ := I.tuple hqy
    have l1 := rv.length
    have l2 := rv2.length
    refine wpAny_pyNext_zipD2_end (i := i) (sepM D) (Draws.list (A := X.A.in1) (I.ok.hd hc) i1 a D.l1i1 its.toArray) (Draws.tuple (A := X.A.in1) (I.ok.hd hc) i2 b D.l2i2 its2.toArray) hz hTI hTO ⟨h1, p.isList⟩ ⟨h2, p2⟩ (by simp; omega) (by simp; omega) (by simp; omega) ?_
    intro h' tk hk
    refine ⟨rfl, I.turnedL (t' := tk) (ch := [z, TI, TO, i1, i2]) ?_ hf⟩
    intro c o hb q
    simp only [List.mem_cons, List.not_mem_nil, or_false, not_or] at hb
    exact hk c o hb.1 hb.2.2.1 hb.2.2.2.1 hb.2.2.2.2 q
  self := fun A i s Q E st h => wpAny_pyIter_zip st.1 h
def iZipM (K : PySem.W.Frag) (ta : TA) : TI := fun σ H R => ta σ H fun vs H1 => ∃ a b xs ys, vs = [.ref a, .ref b] ∧ SqL K H1 a xs ∧ SqT K H1 b ys ∧ R (ItzM K a b) H1
theorem pi_zipM {X : Cx} {e e2 : Expr} {ta : TA} {p pos tpos : Pos} {elts : List Expr} {kk : Nat} (hg : Gl X "zip") (hm : X.mg "zip" = none) (ha : PA X [e, e2] ta)
    (hs : starEach [e, e2] X.env = (false, eval e X.env) :: starEach [e2] X.env := by rfl) (hpl : (backTo pos (starEach [e2] X.env)).any (·.1) = false := by rfl) :
    PI X (.Tuple elts kk tpos) (.Call (.Name "zip" p) [e, e2] [] pos) (iZipM X.K ta) := by
  constructor
  intro pins s σ H R I h
  refine Call_ (ld_blt I hg hm PyProof.Rows.boot_zip (PyProof.Rows.callWith_type1 (thn (ha.run pos pins s σ H _ I h) ?_) hs hpl))
  rintro us s1 ⟨vs, H1, I1, r1, a, b, xs, ys, rfl, hqx, hqy, q⟩
  obtain ⟨u, v, rfl, rfl, rfl⟩ := vals2 r1
  obtain ⟨its, rv, p1, _⟩ := I1.list hqx
  obtain ⟨its2, rv2, p2, _⟩ := I1.tuple hqy
  refine call_zipM p1.isList (show s1.heap.IsTuple b its2.toArray from p2) fun h' hz hTI hTO h1 h2 hk => wpAny_pyIter_zip hz ?_
  have I2 : Inv X pins σ H1 { s1 with heap := h' } := I1.kept (t' := s1.toks) hk
  refine ⟨s1.heap.objs.size + 4, [s1.heap.objs.size + 4, s1.heap.objs.size + 2, s1.heap.objs.size + 3, s1.heap.objs.size, s1.heap.objs.size + 1], _, _, H1, rfl, I2,
    turn_zipM (PySem.W.ktu_apart s1.heap.objs.size a b p1.lt (tupLt p2)), ⟨hz, hTI, ⟨_, _, hTO⟩, h1, h2⟩, ?_, q⟩
  intro c hcm
  have hle : s1.heap.objs.size ≤ c := by
    simp only [List.mem_cons, List.not_mem_nil, or_false] at hcm
    rcases hcm with rfl | rfl | rfl | rfl | rfl <;> omega
  exact I1.fpOk hle (I1.hok.fresh hle)
theorem walk_zipM {K : PySem.W.Frag} {a b : Addr} {xs ys : List V} {n : Nat} (hn : n = min xs.length ys.length) :
    Walk (ItzM K a b) n (fun H => SqL K H a xs ∧ SqT K H b ys) (YPair (fun i => xs[i]?) (fun i => ys[i]?)) := by
  subst hn
  constructor
  · rintro i H hi ⟨q1, q2⟩
    have h1 : i < xs.length := by omega
    have h2 : i < ys.length := by omega
    exact ⟨xs, ys, xs[i], ys[i], q1, q2, by simp [h1], by simp [h2]⟩
  · rintro H ⟨q1, q2⟩
    exact ⟨xs, ys, q1, q2, rfl⟩
  · rintro i H v H' _ ⟨q1, q2⟩ ⟨T, x, z, h1, h2, h3, h4, h5⟩
    exact ⟨T, x, z, h1, h2, h3, h4 xs q1, h5 ys q2⟩
end Pv

namespace Pv
open PySem PySem.Spec PyProof.Rows L2
theorem samePut {H H1 : Hp} {D : Addr} {o : HO} (s : Same H H1) (nD : H D = none) : Same H (upd H1 D o) := fun b z e => by rw [upd_ne (ne_of_none e nD)]; exact s b z e
theorem ty_sq {K : PySem.W.Frag} {H : Hp} {a : Addr} {xs : List V} (h : SqT K H a xs) : TyX K H (.ref a) (.type "tuple") := by
  rcases h with (h | ⟨o, h⟩) | ⟨o, its, n, h, hc, _⟩
  · exact .base (.tup h)
  · exact .fTuple h
  · exact .kTuple h hc
theorem small {n : Nat} (h : n ≤ 1000000) : n < sizeLine := Nat.lt_of_le_of_lt h (by decide)
def addAt (ls : List Int) (p x : Int) : List Int := ls.set p.toNat (ls.getD p.toNat 0 + x)
theorem addAt_len (ls : List Int) (p x : Int) : (addAt ls p x).length = ls.length := by simp [addAt]
theorem freeOf {H : Hp} {p b : Addr} {o : HO} (h : upd H p o b = none) : H b = none := by
  by_cases e : b = p
  · subst e; rw [upd_same] at h; cases h
  · rw [upd_ne e] at h; exact h
theorem ixN_nat {n j : Nat} (h : j < n) : ixN n (j : Int) = some j := by
  unfold ixN
  rw [if_pos (by omega), if_pos (by omega)]
  simp
theorem zip_take {α β : Type} : ∀ (n : Nat) (a : List α) (b : List β), (a.take n).zip (b.take n) = (a.zip b).take n
  | 0, _, _ => by simp
  | _ + 1, [], _ => by simp
  | _ + 1, _ :: _, [] => by simp
  | n + 1, x :: a, y :: b => by simp [zip_take n a b]
def zeros (n : Nat) : List Int := List.replicate n 0
theorem zeros_V (n : Nat) : (List.replicate n [V.int 0]).flatten = (zeros n).map V.int := by
  unfold zeros
  induction n with
  | zero => rfl
  | succ n ih => rw [List.replicate_succ, List.flatten_cons, ih]; rfl
theorem zip_snoc {α β : Type} {a : List α} {b : List β} {i : Nat} {x : α} {y : β} (hx : a[i]? = some x) (hy : b[i]? = some y) : (a.take (i + 1)).zip (b.take (i + 1)) = (a.take i).zip (b.take i) ++ [(x, y)] := by
  rw [zip_take, zip_take, List.take_add_one]
  have : (a.zip b)[i]? = some (x, y) := by
    rw [List.getElem?_zip_eq_some]; exact ⟨hx, hy⟩
  rw [this]; rfl
theorem take_snoc {α : Type} {l : List α} {i : Nat} {x : α} (h : l[i]? = some x) : l.take (i + 1) = l.take i ++ [x] := by rw [List.take_add_one, h]; rfl
theorem cut_to (xs : List V) (n : Nat) : cutV xs none (some (n : Int)) = xs.take n := by
  unfold cutV
  rw [HT.sIx_none, HT.sIx_nat, List.drop_zero, Nat.sub_zero]
  by_cases h : n ≤ xs.length
  · rw [Nat.min_eq_left h]
  · rw [Nat.min_eq_right (by omega), List.take_length, List.take_of_length_le (by omega)]
def absI (i : Int) : Int := if i < 0 then -i else i
theorem absI_nn (i : Int) : 0 ≤ absI i := by unfold absI; split <;> omega
def restI (c : Int) : Int := c * (if decide ((10 : Int) ^ (18 : Int).toNat ≤ c) = true then 1 else 0)
theorem restI_nn {c : Int} (h : 0 ≤ c) : 0 ≤ restI c := by unfold restI; split <;> omega
structure InsOk (cs : List Int) (gs : List Gp) : Prop where
  c1 : 1 ≤ cs.length
  c6 : cs.length ≤ 6
  cb : ∀ c ∈ cs, 1 ≤ c ∧ c ≤ 10 ^ 12
  g1 : 1 ≤ gs.length
  g10 : gs.length ≤ 10
  gp : ∀ g ∈ gs, g.1.length ≤ 6 ∧ (∀ p ∈ g.1, 0 ≤ p ∧ p < (cs.length : Int)) ∧ 1 ≤ g.2 ∧ g.2 ≤ 10 ^ 12
theorem ExtPut {st r p : Addr} {H H1 : Hp} {o : HO} (x : Ext st r H H1) (np : H p = none) : Ext st r H (upd H1 p o) := fun b z e n1 n2 => by rw [upd_ne (ne_of_none e np)]; exact x b z e n1 n2
theorem Ext.nil {st c r p : Addr} {t : Nat} {H H1 : Hp} (x : Ext st r H H1) (d : DS H1 st c r t) (np : H1 p = none) : H p = none := by
  have o := d.off np
  cases e : H p with
  | none => rfl
  | some z => rw [x _ _ e o.1 o.2.2] at np; cases np
def upTo (n : Nat) : List Int := (List.range n).map fun (i : Nat) => (i : Int)
theorem rgV_upTo (n : Nat) : rgV 0 (n : Int) = (upTo n).map V.int := by
  unfold rgV upTo
  rw [List.map_map]
  simp
theorem upTo_len (n : Nat) : (upTo n).length = n := by simp [upTo]
theorem upTo_mem {n : Nat} {x : Int} (h : x ∈ upTo n) : 0 ≤ x ∧ x < n := by
  unfold upTo at h
  obtain ⟨i, hi, rfl⟩ := List.mem_map.mp h
  have := List.mem_range.mp hi
  omega
theorem erase_map {α β : Type} (f : α → β) : ∀ (l : List α) (k : Nat), (l.map f).eraseIdx k = (l.eraseIdx k).map f
  | [], _ => rfl
  | _ :: _, 0 => rfl
  | x :: l, k + 1 => by simp [erase_map f l k]
theorem fine_grp {cs : List Int} {gs : List Gp} (ok : InsOk cs gs) {g : Gp} (hg : g ∈ gs) : Fine 2 500 (dGrp g) := by
  obtain ⟨h1, h2, h3, h4⟩ := ok.gp g hg
  refine (fine_tup (k := 1) (B := 200) (n := 2) (xs := [dI g.1, .int g.2]) ?_ (by simp)).mono (by omega) (by omega)
  intro x hx
  simp at hx
  rcases hx with rfl | rfl
  · exact (fine_dI (n := 6) (fun p hp => by have := h2 p hp; have := ok.c6; omega) h1).mono (by omega) (by omega)
  · exact (fine_int (by omega)).mono (by omega) (by omega)
theorem fine_inst {cs : List Int} {gs : List Gp} (ok : InsOk cs gs) : Fine 4 20000 (dInst cs gs) := by
  refine (fine_tup (k := 3) (B := 8000) (n := 2) (xs := [dI cs, .tuple (gs.map dGrp)]) ?_ (by simp)).mono (by omega) (by omega)
  intro x hx
  simp at hx
  rcases hx with rfl | rfl
  · exact (fine_dI (n := 6) (fun p hp => by have := ok.cb p hp; omega) ok.c6).mono (by omega) (by omega)
  · refine (fine_tup (k := 2) (B := 500) (n := 10) ?_ (by rw [List.length_map]; exact ok.g10)).mono (by omega) (by omega)
    intro d hd
    obtain ⟨g, hg, rfl⟩ := List.mem_map.mp hd
    exact fine_grp ok hg
theorem hu70 {k : Nat} {A : Around} (hr : Room k A) : A.units + 70 < cLine := by have := hr.un; omega
theorem ty_sqL {K : PySem.W.Frag} {H : Hp} {a : Addr} {xs : List V} (h : SqL K H a xs) : TyX K H (.ref a) (.type "list") := by
  rcases h with (h | ⟨o, h⟩) | ⟨o, its, n, h, hc, _⟩
  · exact .base (.lst h)
  · exact .base (.frz h)
  · exact .kList h hc
theorem FnOk.none {P : Program} {w : World} {K : PySem.W.Frag} {mg : Str → Option Value} {base : Heap} {k : Nat} {f : Addr} {fd : FuncData} {ps : List Str} : FnOk P w K mg base CX0 k f fd ps (fun _ _ _ _ => False) :=
  ⟨fun _ _ _ _ h => h.elim, fun _ _ _ _ _ _ _ _ _ _ _ _ _ h => h.elim⟩
end Pv

namespace Pv
open PySem PySem.Spec PyProof.Rows L2

/-! data of any kind: lists stand off the drawing state, dicts have leaves alone -/
def kD : Key → PyData
  | .inl i => .int i
  | .inr x => .str x
mutual
inductive Dq (K : PySem.W.Frag) (st r : Addr) (H : Hp) : V → PyData → Prop
  | non : Dq K st r H .non .none
  | bl (b : Bool) : Dq K st r H (.bl b) (.bool b)
  | int (i : Int) : Dq K st r H (.int i) (.int i)
  | str (x : Str) : Dq K st r H (.str x) (.str x)
  | lst {a : Addr} {xs : List V} {ds : List PyData} : H a = some (.lst xs) → a ≠ st → a ≠ r → a ≠ sysModules → DqAll K st r H xs ds → Dq K st r H (.ref a) (.list ds)
  | tup {a : Addr} {xs : List V} {ds : List PyData} : SqT K H a xs → DqAll K st r H xs ds → Dq K st r H (.ref a) (.tuple ds)
  | dct {a : Addr} {kvs : List (Key × Int)} : H a = some (.dK (kvs.map fun p => (p.1, V.int p.2))) → Dq K st r H (.ref a) (.dict (kvs.map fun p => (kD p.1, .int p.2)))
inductive DqAll (K : PySem.W.Frag) (st r : Addr) (H : Hp) : List V → List PyData → Prop
  | nil : DqAll K st r H [] []
  | cons {v : V} {vs : List V} {d : PyData} {ds : List PyData} : Dq K st r H v d → DqAll K st r H vs ds → DqAll K st r H (v :: vs) (d :: ds)
end
theorem keys_reads {P : Program} {w : World} {h : Heap} : ∀ {kvs : List (Key × Int)} {vs : List (Key × Value)} {es : List DictEntry}, KV (kvs.map fun p => (p.1, V.int p.2)) vs → Pairs (mixKind P w) es vs →
    ReadsAll h (es.map (·.key)) ((kvs.map fun p => (kD p.1, PyData.int p.2)).map (·.1)) [] ∧ ReadsAll h (es.map (·.val)) ((kvs.map fun p => (kD p.1, PyData.int p.2)).map (·.2)) []
  | [], _, _, rk, rp => by
    cases rk
    cases rp
    exact ⟨.nil, .nil⟩
  | p :: kvs, _, _, rk, rp => by
    obtain ⟨pk, pi⟩ := p
    rw [List.map_cons] at rk
    cases rk with
    | @cons _ q _ qs hq tq =>
      obtain ⟨qk, qv⟩ := q
      obtain ⟨h1, h2⟩ := hq
      simp only at h1 h2
      subst h1
      cases rp with
      | @cons e _ es _ he hv tp =>
        obtain ⟨r1, r2⟩ := keys_reads (h := h) tq tp
        simp only at he hv
        obtain ⟨t, ht⟩ := h2
        subst ht
        refine ⟨?_, ?_⟩
        · have k1 : Reads h e.key (kD pk) [] := by
            rcases keyIs_shape (show keyIs pk e.key = true from he) with ⟨i, t, e1, e2⟩ | ⟨x, t, e1, e2⟩
            · rw [e1, e2]; exact .int i t
            · rw [e1, e2]; exact .str x t
          exact ReadsAll.cons k1 r1
        · have k2 : Reads h e.val (.int pi) [] := by rw [hv]; exact .int pi t
          exact ReadsAll.cons k2 r2
section
variable {X : Cx} {pins : List (Addr × Obj)} {σ : L2.St} {H : Hp} {s : Shared} {st r : Addr}
mutual
theorem Dq.reads (I : Inv X pins σ H s) : ∀ (d : PyData) (v : V) (u : Value), Dq X.K st r H v d → RelV v u → ∃ as, Reads s.heap u d as ∧ sysModules ∉ as
  | .none, _, _, h, q => by
    cases h; cases q; exact ⟨[], .none, by simp⟩
  | .bool b, _, _, h, q => by
    cases h; cases q; exact ⟨[], .bool b, by simp⟩
  | .int i, _, _, h, q => by
    cases h; obtain ⟨t, e⟩ := q; subst e; exact ⟨[], .int i t, by simp⟩
  | .str x, _, _, h, q => by
    cases h; obtain ⟨t, e⟩ := q; subst e; exact ⟨[], .str x t, by simp⟩
  | .list ds, _, _, h, q => by
    cases h with
    | lst e _ _ n hd =>
      cases q
      obtain ⟨its, rel, ⟨o, m, ho, hc, _, hm⟩, _⟩ := I.list (SqL.of e)
      obtain ⟨as, h1, h2⟩ := DqAll.reads I ds _ its hd rel
      exact ⟨_, .list ho hc hm h1, by simp only [List.mem_cons, not_or]; exact ⟨fun z => n z.symm, h2⟩⟩
  | .tuple ds, _, _, h, q => by
    cases h with
    | tup e hd =>
      cases q
      obtain ⟨its, rel, ⟨o, ho, hc, m, hm⟩, _⟩ := I.tuple e
      obtain ⟨as, h1, h2⟩ := DqAll.reads I ds _ its hd rel
      exact ⟨_, .tuple ho hc hm h1, h2⟩
  | .dict _, _, _, h, q => by
    cases h with
    | dct e =>
      cases q
      obtain ⟨_, nb, vs, rk, o, es, ep, ho, hx, hm, _, rp, _⟩ := dk_of I.hok e
      obtain ⟨h1, h2⟩ := keys_reads (h := s.heap) rk rp
      exact ⟨_, .dict ho hx.1 hm h1 h2, by simp only [List.nil_append, List.append_nil, List.mem_singleton, List.mem_cons, List.not_mem_nil, or_false]; exact fun z => absurd z.symm (by simpa using nb)⟩
theorem DqAll.reads (I : Inv X pins σ H s) : ∀ (ds : List PyData) (vs : List V) (us : List Value), DqAll X.K st r H vs ds → Vals vs us → ∃ as, ReadsAll s.heap us ds as ∧ sysModules ∉ as
  | [], _, _, h, q => by
    cases h; cases q; exact ⟨[], .nil, by simp⟩
  | d :: ds, _, _, h, q => by
    cases h with
    | cons h1 h2 =>
      cases q with
      | cons q1 q2 =>
        obtain ⟨as, e1, n1⟩ := Dq.reads I d _ _ h1 q1
        obtain ⟨bs, e2, n2⟩ := DqAll.reads I ds _ _ h2 q2
        exact ⟨_, .cons e1 e2, by simp only [List.mem_append, not_or]; exact ⟨n1, n2⟩⟩
end
end
/-- repr of such data -/
theorem call_reprQ {X : Cx} (hg : X.A.guards = some []) (hu : X.A.units + 70 < cLine) : CallR X (.builtin "repr")
    (fun xs H Q => ∃ a d st r, xs = [.ref a] ∧ Dq X.K st r H (.ref a) d ∧ d.showable = true ∧ d.depth ≤ 60 ∧ d.shown.length ≤ sizeLine ∧ Q (.str d.shown) H) := by
  intro pins s σ H xs us Q I rv h
  obtain ⟨a, d, st, r, rfl, hd, h1, h3, h4, q⟩ := h
  obtain ⟨u, rfl, rfl⟩ := vals1 rv
  obtain ⟨as, rd, nm⟩ := Dq.reads I d _ _ hd rfl
  exact repr_of_reads' rd h1 (fun _ => nm) hg (by omega) (fun _ _ e => e) (fun h' u tk hk => ⟨.str _, H, I.kept hk, ⟨_, rfl⟩, q⟩) h4

/-! how it lasts -/
section
variable {K : PySem.W.Frag} {st r c : Addr} {H H' : Hp}
structure Lasts (st r : Addr) (H H' : Hp) : Prop where
  tk : TupK H H'
  ls : ∀ a xs, H a = some (.lst xs) → a ≠ st → a ≠ r → H' a = some (.lst xs)
  dk : ∀ a kvs, H a = some (.dK kvs) → H' a = some (.dK kvs)
theorem Lasts.refl : Lasts st r H H := ⟨.refl _, fun _ _ e _ _ => e, fun _ _ e => e⟩
theorem Lasts.of (s : Same H H') : Lasts st r H H' := ⟨.of s, fun a xs e _ _ => s _ _ e, fun a kvs e => s _ _ e⟩
theorem Lasts.ext {t : Nat} (d : DS H st c r t) (x : Ext st r H H') : Lasts st r H H' := by
  refine ⟨x.tup d, fun a xs e n1 n2 => x _ _ e n1 n2, fun a kvs e => ?_⟩
  obtain ⟨cells, rests, hc, hr, _⟩ := d.ex
  exact x _ _ e (ne_of e d.hs (by intro z; cases z)) (ne_of e hr (by intro z; cases z))
theorem Lasts.trans {H2 : Hp} (a : Lasts st r H H') (b : Lasts st r H' H2) : Lasts st r H H2 :=
  ⟨a.tk.trans b.tk, fun p xs e n1 n2 => b.ls _ _ (a.ls _ _ e n1 n2) n1 n2, fun p kvs e => b.dk _ _ (a.dk _ _ e)⟩
theorem Lasts.new {p : Addr} {o : HO} (np : H p = none) : Lasts st r H (upd H p o) := .of (sameNew np)
mutual
theorem Dq.lasts (l : Lasts st r H H') : ∀ {d : PyData} {v : V}, Dq K st r H v d → Dq K st r H' v d
  | .none, _, h => by cases h; exact .non
  | .bool _, _, h => by cases h; exact .bl _
  | .int _, _, h => by cases h; exact .int _
  | .str _, _, h => by cases h; exact .str _
  | .list _, _, h => by
    cases h with
    | lst e n1 n2 n3 hd => exact .lst (l.ls _ _ e n1 n2) n1 n2 n3 (DqAll.lasts l hd)
  | .tuple _, _, h => by
    cases h with
    | tup e hd => exact .tup (l.tk.sq e) (DqAll.lasts l hd)
  | .dict _, _, h => by
    cases h with
    | dct e => exact .dct (l.dk _ _ e)
theorem DqAll.lasts (l : Lasts st r H H') : ∀ {ds : List PyData} {vs : List V}, DqAll K st r H vs ds → DqAll K st r H' vs ds
  | [], _, h => by cases h; exact .nil
  | _ :: _, _, h => by
    cases h with
    | cons h1 h2 => exact .cons (Dq.lasts l h1) (DqAll.lasts l h2)
end
mutual
theorem Dq.of_dp : ∀ {d : PyData} {v : V}, tupOnly d = true → Dp K H v d → Dq K st r H v d
  | .none, _, _, h => by cases h; exact .non
  | .bool _, _, _, h => by cases h; exact .bl _
  | .int _, _, _, h => by cases h; exact .int _
  | .str _, _, _, h => by cases h; exact .str _
  | .list _, _, t, _ => by simp [tupOnly] at t
  | .tuple _, _, t, h => by
    cases h with
    | tup e hd => exact .tup e (DqAll.of_dp (by simpa [tupOnly] using t) hd)
  | .dict _, _, t, _ => by simp [tupOnly] at t
theorem DqAll.of_dp : ∀ {ds : List PyData} {vs : List V}, tupOnlyAll ds = true → DpAll K H vs ds → DqAll K st r H vs ds
  | [], _, _, h => by cases h; exact .nil
  | d :: ds, _, t, h => by
    have t' : tupOnly d = true ∧ tupOnlyAll ds = true := by simpa [tupOnlyAll] using t
    cases h with
    | cons h1 h2 => exact .cons (Dq.of_dp t'.1 h1) (DqAll.of_dp t'.2 h2)
theorem Dq.to_dp : ∀ {d : PyData} {v : V}, tupOnly d = true → Dq K st r H v d → Dp K H v d
  | .none, _, _, h => by cases h; exact .non
  | .bool _, _, _, h => by cases h; exact .bl _
  | .int _, _, _, h => by cases h; exact .int _
  | .str _, _, _, h => by cases h; exact .str _
  | .list _, _, t, _ => by simp [tupOnly] at t
  | .tuple _, _, t, h => by
    cases h with
    | tup e hd => exact .tup e (DqAll.to_dp (by simpa [tupOnly] using t) hd)
  | .dict _, _, t, _ => by simp [tupOnly] at t
theorem DqAll.to_dp : ∀ {ds : List PyData} {vs : List V}, tupOnlyAll ds = true → DqAll K st r H vs ds → DpAll K H vs ds
  | [], _, _, h => by cases h; exact .nil
  | d :: ds, _, t, h => by
    have t' : tupOnly d = true ∧ tupOnlyAll ds = true := by simpa [tupOnlyAll] using t
    cases h with
    | cons h1 h2 => exact .cons (Dq.to_dp t'.1 h1) (DqAll.to_dp t'.2 h2)
end
theorem DqAll.len : ∀ {vs : List V} {ds : List PyData}, DqAll K st r H vs ds → vs.length = ds.length
  | _, _, .nil => rfl
  | _, _, .cons _ t => by simp [DqAll.len t]
theorem DqAll.at : ∀ {vs : List V} {ds : List PyData} {i : Nat} {v : V}, DqAll K st r H vs ds → vs[i]? = some v → ∃ d, ds[i]? = some d ∧ Dq K st r H v d
  | _, _, _, _, .nil, e => by simp at e
  | _, _, 0, _, .cons h _, e => by simp at e; subst e; exact ⟨_, rfl, h⟩
  | _, _, i + 1, v, .cons _ t, e => by
    obtain ⟨d, h1, h2⟩ := DqAll.at (i := i) t (by simpa using e)
    exact ⟨d, by simpa using h1, h2⟩
theorem DqAll.app : ∀ {vs ws : List V} {ds es : List PyData}, DqAll K st r H vs ds → DqAll K st r H ws es → DqAll K st r H (vs ++ ws) (ds ++ es)
  | _, _, _, _, .nil, h => h
  | _, _, _, _, .cons h t, h' => .cons h (DqAll.app t h')
theorem DqAll.snoc {vs : List V} {ds : List PyData} {v : V} {d : PyData} (h : DqAll K st r H vs ds) (h' : Dq K st r H v d) : DqAll K st r H (vs ++ [v]) (ds ++ [d]) := h.app (.cons h' .nil)
theorem DqAll.rev : ∀ {vs : List V} {ds : List PyData}, DqAll K st r H vs ds → DqAll K st r H vs.reverse ds.reverse
  | _, _, .nil => .nil
  | _, _, .cons h t => by rw [List.reverse_cons, List.reverse_cons]; exact (DqAll.rev t).snoc h
theorem DqAll.take : ∀ {vs : List V} {ds : List PyData} (n : Nat), DqAll K st r H vs ds → DqAll K st r H (vs.take n) (ds.take n)
  | _, _, 0, _ => .nil
  | _, _, _ + 1, .nil => .nil
  | _, _, n + 1, .cons h t => .cons h (DqAll.take n t)
theorem DqAll.drop : ∀ {vs : List V} {ds : List PyData} (n : Nat), DqAll K st r H vs ds → DqAll K st r H (vs.drop n) (ds.drop n)
  | _, _, 0, h => h
  | _, _, _ + 1, .nil => .nil
  | _, _, n + 1, .cons _ t => DqAll.drop n t
/-- its type -/
def tyN : PyData → String
  | .none => "NoneType"
  | .bool _ => "bool"
  | .int _ => "int"
  | .str _ => "str"
  | .list _ => "list"
  | .tuple _ => "tuple"
  | .dict _ => "dict"
theorem Dq.ty {d : PyData} {v : V} (h : Dq K st r H v d) : TyX K H v (.type (tyN d)) := by
  cases h with
  | non => exact .base .non
  | bl b => exact .base (.bl b)
  | int i => exact .base (.int i)
  | str x => exact .base (.str x)
  | lst e => exact .base (.lst e)
  | tup e _ =>
    rcases e with (e | ⟨o, e⟩) | ⟨o, its, n, e, hc, _⟩
    · exact .base (.tup e)
    · exact .fTuple e
    · exact .kTuple e hc
  | dct e => exact .base (.dK e)
def isTup : PyData → Bool
  | .tuple _ => true
  | _ => false
def isInt : PyData → Bool
  | .int _ => true
  | .bool _ => true
  | _ => false
def isBool : PyData → Bool
  | .bool _ => true
  | _ => false
theorem kit_tup (d : PyData) : PySem.W.kitOne K (.type (tyN d)) (.type "tuple") = some (isTup d) := by
  have key : ∀ a b : String, ∀ x : Bool, kitB a b = some x → PySem.W.kitOne K (.type a) (.type b) = some x := fun _ _ _ h => kit_ty h
  cases d
  · exact key "NoneType" "tuple" false (by decide +kernel)
  · exact key "bool" "tuple" false (by decide +kernel)
  · exact key "int" "tuple" false (by decide +kernel)
  · exact key "str" "tuple" false (by decide +kernel)
  · exact key "list" "tuple" false (by decide +kernel)
  · exact key "tuple" "tuple" true (by decide +kernel)
  · exact key "dict" "tuple" false (by decide +kernel)
theorem kit_int (d : PyData) : PySem.W.kitOne K (.type (tyN d)) (.type "int") = some (isInt d) := by
  have key : ∀ a b : String, ∀ x : Bool, kitB a b = some x → PySem.W.kitOne K (.type a) (.type b) = some x := fun _ _ _ h => kit_ty h
  cases d
  · exact key "NoneType" "int" false (by decide +kernel)
  · exact key "bool" "int" true (by decide +kernel)
  · exact key "int" "int" true (by decide +kernel)
  · exact key "str" "int" false (by decide +kernel)
  · exact key "list" "int" false (by decide +kernel)
  · exact key "tuple" "int" false (by decide +kernel)
  · exact key "dict" "int" false (by decide +kernel)
theorem kit_bool (d : PyData) : PySem.W.kitOne K (.type (tyN d)) (.type "bool") = some (isBool d) := by
  have key : ∀ a b : String, ∀ x : Bool, kitB a b = some x → PySem.W.kitOne K (.type a) (.type b) = some x := fun _ _ _ h => kit_ty h
  cases d
  · exact key "NoneType" "bool" false (by decide +kernel)
  · exact key "bool" "bool" true (by decide +kernel)
  · exact key "int" "bool" false (by decide +kernel)
  · exact key "str" "bool" false (by decide +kernel)
  · exact key "list" "bool" false (by decide +kernel)
  · exact key "tuple" "bool" false (by decide +kernel)
  · exact key "dict" "bool" false (by decide +kernel)
end
/-! a new list, whose address is none of the machine's own -/
def tLstS (t : TA) : TE := fun σ H Q => t σ H fun xs H1 => xs.length ≤ sizeLine ∧ ∀ p, H1 p = none → p ≠ sysModules → Q (.ref p) (upd H1 p (.lst xs))
section
variable {X : Cx} {es : List Expr} {pos : Pos} {t : TA}
theorem pe_lstS (h : PA X es t) : PE X (.List es pos) (tLstS t) := by
  constructor
  intro pins s σ H Q I hq
  refine wpAny_List_spliced (thn (h.run pos pins s σ H _ I hq) ?_)
  rintro us s1 ⟨xs, H1, I1, rel, z, q⟩
  refine ⟨by rw [← rel.length]; exact z, .ref s1.heap.objs.size, _, ?_, rfl, q _ (I1.hok.fresh (Nat.le_refl _)) (Nat.ne_of_gt I1.big)⟩
  exact I1.laid (t' := s1.toks) (fun b u e => Heap.get?_push_of_some _ e) (Nat.le_refl _) ⟨z, us, 0, rel, Heap.get?_push_size _ rfl⟩
def rListS (K : PySem.W.Frag) : RC := fun xs H Q => ∃ (p : Addr) (ys : List V), xs = [.ref p] ∧ SqT K H p ys ∧ ∀ l, H l = none → l ≠ sysModules → Q (.ref l) (upd H l (.lst ys))
theorem call_listS : CallR X (.type "list") (rListS X.K) := by
  intro pins s σ H xs us Q I rel h
  obtain ⟨p, ys, e, hq, q⟩ := h
  subst e
  obtain ⟨u, e, rx⟩ := vals1 rel
  subst e
  cases rx
  obtain ⟨its, r', ⟨o, ho, hc, n, hd⟩, hz⟩ := I.tuple hq
  have hlen := r'.length
  refine call_list_seq p (.inr rfl) ho hc hd (fun h' c' kp e => ?_) (by simp only [List.size_toArray]; omega)
  exact ⟨.ref s.heap.objs.size, _, I.laid (t' := s.toks) (o := .lst ys) kp (Nat.le_refl _) ⟨hz, its, c', r', e⟩, rfl, q _ (I.hok.fresh (Nat.le_refl _)) (Nat.ne_of_gt I.big)⟩
end
end Pv

/-! t[::-1] of a tuple -/
namespace HT
open PySem PyProof.Rows
section
variable {prog : Program} {w : World} {A : Around} {E : Value → Shared → Prop} {s : Shared}
theorem pv_pickBack (xs : Array Value) : ((List.range xs.size).filterMap fun (k : Nat) => xs[(((xs.size : Int) - 1) + (k : Int) * (-1)).toNat]?) = xs.toList.reverse := by
  apply List.ext_getElem?
  intro i
  have e : ∀ n, n ≤ xs.size → ((List.range n).filterMap fun (k : Nat) => xs[(((xs.size : Int) - 1) + (k : Int) * (-1)).toNat]?) = xs.toList.reverse.take n := by
    intro n
    induction n with
    | zero => intro _; rfl
    | succ n ih =>
      intro hn
      rw [List.range_succ, List.filterMap_append, ih (by omega), List.take_add_one]
      congr 1
      have h1 : (((xs.size : Int) - 1) + (n : Int) * (-1)).toNat = xs.size - 1 - n := by omega
      rw [List.filterMap_cons, List.filterMap_nil, h1, List.getElem?_reverse (by rw [Array.length_toList]; omega), Array.length_toList, Array.getElem?_toList]
      cases xs[xs.size - 1 - n]? <;> rfl
  rw [e xs.size (Nat.le_refl _), List.take_of_length_le (by simp)]
theorem pv_appliedBack {sl : Addr} {n : Nat} {t : Tok} {Q : Int × Int × Nat → Shared → Prop} (hs : s.heap.IsSliceOf sl .none .none (.int (-1) t)) (h : Q ((n : Int) - 1, -1, n) s) :
    wpAny (model prog w) A (Builtin.Slice.sliceApplied (.ref sl) (pure (n : Int))) Q E s := by
  obtain ⟨os, hos, hcs, hds⟩ := id hs
  unfold Builtin.Slice.sliceApplied Builtin.Slice.sliceFields
  refine wpAny_bind (wpAny_bind (wpAny_field hos hds (x := .none) rfl (wpAny_bind (wpAny_field hos hds (x := .none) rfl (wpAny_bind (wpAny_field hos hds (x := .int (-1) t) rfl (wpAny_pure ?_)))))))
  refine wpAny_bind (slicePart_ (IsPart.int (-1) t) ?_)
  show wpAny _ _ (if ((-1 : Int) == 0) = true then _ else _) _ _ s
  rw [if_neg (by decide)]
  refine wpAny_bind (slicePart_ IsPart.none (wpAny_bind (slicePart_ IsPart.none (wpAny_bind (wpAny_pure ?_)))))
  show wpAny _ _ (match Builtin.Slice.sliceAdjust none none (-1) (n : Int) with | (a, b) => pure (a, (-1 : Int), Builtin.Slice.slicePlaces a b (-1))) _ _ s
  have e1 : Builtin.Slice.sliceAdjust none none (-1) (n : Int) = ((n : Int) - 1, -1) := rfl
  rw [e1]
  show wpAny _ _ (pure ((n : Int) - 1, (-1 : Int), Builtin.Slice.slicePlaces ((n : Int) - 1) (-1) (-1))) _ _ s
  have e2 : Builtin.Slice.slicePlaces ((n : Int) - 1) (-1) (-1) = n := by
    unfold Builtin.Slice.slicePlaces
    have h1 : ¬ ((-1 : Int) > 0) := by omega
    simp only [h1, if_false]
    by_cases h2 : (n : Int) - 1 > -1
    · rw [if_pos h2]
      have h3 : -(-1 : Int) = 1 := rfl
      rw [h3, Int.ediv_one]
      omega
    · rw [if_neg h2]; omega
  rw [e2]
  exact wpAny_pure h
theorem pv_getItemBack {p sl : Addr} {items : Array Value} {t : Tok} {Q : Value → Shared → Prop} (ht : IsTup s.heap p items) (hs : s.heap.IsSliceOf sl .none .none (.int (-1) t))
    (h : Q (.ref s.heap.objs.size) { s with heap := s.heap.push { cls := .type "tuple", data := .seq items.toList.reverse.toArray } }) (hsz : items.size ≤ sizeLine) : wpAny (model prog w) A (getItem (.ref p) (.ref sl)) Q E s := by
  have hfit : sizeOk (.seq items.toList.reverse.toArray) := by
    show items.toList.reverse.toArray.size ≤ sizeLine
    rw [List.size_toArray, List.length_reverse]; simpa using hsz
  obtain ⟨os, hos, hcs, hds⟩ := id hs
  have hT : s.TypeIs (.ref sl) "slice" := ⟨os, hos, hcs⟩
  unfold getItem; try with_reducible refine wpAny_holding ?_
  first | refine wpAny_bind (wpAny_pure ?_) | skip
  refine wpAny_bind (wpAny_sequenceKey ht.typeIs (by decide) (wpAny_bind (wpAny_callSpecial?_slot (name := Str.ofString "__getitem__") ht.typeIs PyProof.Rows.slot_tuple_getitem
    (wpAny_call_entry PyProof.Rows.slot_tuple_getitem ht.typeIs entry_tuple_getitem ?_ (args_tuple_getitem _ _)))))
  show wpAny _ _ (Builtin.Tuple.tupleItemsOf (.ref p) >>= _) _ _ s
  refine wpAny_bind (tupleItemsOf_ ht (wpAny_bind (wpAny_typeOf hT ?_)))
  rw [if_pos (by decide)]
  refine wpAny_bind (pv_appliedBack hs ?_)
  show wpAny _ _ (if (((items.size : Int) - 1) == 0 && (-1 : Int) == 1 && items.size == items.size) = true then _ else _) _ _ s
  rw [if_neg (by simp)]
  show wpAny _ _ (Builtin.Tuple.tupleExact ((List.range items.size).filterMap fun (k : Nat) => items[(((items.size : Int) - 1) + (k : Int) * (-1)).toNat]?).toArray >>= _) _ _ s
  rw [pv_pickBack]
  first
    | exact wpAny_bind (m := Builtin.Tuple.tupleExact _) (wpAny_newObj_type (wpAny_pure ⟨_, rfl, wpAny_pure h⟩) hfit)
    | exact wpAny_bind (m := Builtin.Tuple.tupleExact _) (wpAny_newObj_type (wpAny_bind (wpAny_pure (wpAny_pure ⟨_, rfl, wpAny_pure h⟩))) hfit)
    | exact wpAny_bind (wpAny_bind (m := Builtin.Tuple.tupleExact _) (wpAny_newObj_type (wpAny_pure (wpAny_pure ⟨_, rfl, wpAny_pure h⟩)) hfit))
    | exact wpAny_bind (wpAny_bind (m := Builtin.Tuple.tupleExact _) (wpAny_newObj_type (wpAny_pure ⟨_, rfl, wpAny_pure h⟩) hfit))
end
end HT
namespace Pv
open PySem PySem.Spec PyProof.Rows L2
def tRevT (K : PySem.W.Frag) (te : TE) : TE := fun σ H Q => te σ H fun x H1 => ∃ (a : Addr) (xs : List V), x = .ref a ∧ SqT K H1 a xs ∧ ∀ p, H1 p = none → Q (.ref p) (upd H1 p (.tup xs.reverse))
section
variable {X : Cx}
theorem pe_revT {e : Expr} {te : TE} {k : Nat} {p1 p2 p3 pos : Pos} (he : PE X e te) : PE X (.Subscript e (.Slice none none (some (.UnaryOp .USub (.Constant (.int 1) k p1) p2)) p3) pos) (tRevT X.K te) := by
  constructor
  intro pins s σ H Q I h
  refine Subscript_ (thn (he.run pins s σ H _ I h) ?_)
  rintro v s1 ⟨x, H1, I1, r1, a, xs, rfl, hx, q⟩
  cases r1
  have hst : PO X (some (.UnaryOp .USub (.Constant (.int 1) k p1) p2)) (tPart (tUn (rU fun i => .int (-i)) (tC (.int 1)))) := po_some (pe_un un_neg pe_int)
  refine wpAny_Slice (thn (po_none.run pins s1 σ H1 (fun o H2 => o = none ∧ H2 = H1) I1 ⟨rfl, rfl⟩) ?_)
  rintro vl s2 ⟨l, H2, I2, pl, rfl, rfl⟩
  refine thn (po_none.run pins s2 σ H2 (fun o H3 => o = none ∧ H3 = H2) I2 ⟨rfl, rfl⟩) ?_
  rintro vu s3 ⟨u, H3, I3, pu, rfl, rfl⟩
  refine thn (hst.run pins s3 σ H3 (fun o H4 => o = some (-1) ∧ H4 = H3) I3 ⟨1, rfl, -1, rfl, rfl, rfl⟩) ?_
  rintro vs s4 ⟨o, H4, I4, ps, rfl, rfl⟩
  have I5 : Inv X pins σ H4 { s4 with heap := s4.heap.push { cls := .type "slice", data := .fields #[vl, vu, vs] } } := I4.kept (t' := s4.toks) fun b ob q => Heap.get?_push_of_some _ q
  obtain ⟨its, r, ht, hz⟩ := I5.tuple hx
  have hlen := r.length
  cases pl
  cases pu
  cases ps
  show wpAny (model X.prog X.w) X.A (subscriptTail e (.Slice none none (some (.UnaryOp .USub (.Constant (.int 1) k p1) p2)) p3) (.ref a) (.ref s4.heap.objs.size)) (EP X pins σ Q) X.xe _
  refine tail_any (ops := [.ref a, .ref s4.heap.objs.size]) ht.typeIs (PyProof.Rows.slot_tuple_getitem.lookup) ?_ (by with_unfolding_all rfl)
  refine HT.pv_getItemBack ht (Heap.IsSliceOf.new _ _ _ _) ?_ (by rw [List.size_toArray]; omega)
  refine ⟨.ref _, _, I5.laid (t' := s4.toks) (o := .tup xs.reverse) (fun b ob q => Heap.get?_push_of_some _ q) (Nat.le_refl _) ?_, rfl, q _ (I5.hok.fresh (Nat.le_refl _))⟩
  exact ⟨by rw [List.length_reverse]; exact hz, _, r.reverse, IsTup.new _ _⟩
/-! list == [], tuple != () whatever the items are -/
def rEqNil (K : PySem.W.Frag) : R2 := fun x y H Q => ∃ (a b : Addr) (xs : List V), x = .ref a ∧ y = .ref b ∧ SqL K H a xs ∧ SqL K H b [] ∧ Q (.bl xs.isEmpty) H
theorem op_eqNil (hu : X.A.units < cLine) : OpR X (compareOp .Eq) (rEqNil X.K) := by
  intro pins s σ H x y v u Q I rx ry h
  obtain ⟨a, b, xs, rfl, rfl, ha, hb, q⟩ := h
  cases rx
  cases ry
  obtain ⟨its, r1, p1, z1⟩ := I.list ha
  obtain ⟨its2, r2, p2, z2⟩ := I.list hb
  cases r2
  cases xs with
  | nil =>
    cases r1
    exact SeqAt.RcAt.lists (e := fun _ => true) p1.isList p2.isList rfl hu (fun j h1 _ => absurd h1 (Nat.not_lt_zero _)) X.prog X.w _ _ ⟨.bl true, H, I, rfl, q⟩
  | cons x xs =>
    have hl := r1.length
    exact SeqAt.RcAt.lists_lengths p1.isList p2.isList (by rw [List.size_toArray, ← hl]; rfl) hu X.prog X.w _ _ ⟨.bl false, H, I, rfl, q⟩
def rNeNilT (K : PySem.W.Frag) : R2 := fun x y H Q => ∃ (a b : Addr) (xs : List V), x = .ref a ∧ y = .ref b ∧ SqT K H a xs ∧ SqT K H b [] ∧ Q (.bl (!xs.isEmpty)) H
theorem op_neNilT (hu : X.A.units < cLine) : OpR X (compareOp .NotEq) (rNeNilT X.K) := by
  intro pins s σ H x y v u Q I rx ry h
  obtain ⟨a, b, xs, rfl, rfl, ha, hb, q⟩ := h
  cases rx
  cases ry
  obtain ⟨its, r1, p1, z1⟩ := I.tuple ha
  obtain ⟨its2, r2, p2, z2⟩ := I.tuple hb
  cases r2
  have hl := r1.length
  have key := SeqAt.RcNeAt.tuples (A := X.A) (e := fun _ => true) (show s.heap.IsTuple a its.toArray from p1) (show s.heap.IsTuple b ([] : List Value).toArray from p2) hu (fun j _ h2 => absurd h2 (Nat.not_lt_zero _)) X.prog X.w
  have e : (!((List.range (min its.toArray.size ([] : List Value).toArray.size)).all (fun _ => true) && its.toArray.size == ([] : List Value).toArray.size)) = !xs.isEmpty := by
    rw [List.size_toArray, ← hl]
    cases xs <;> simp
  rw [e] at key
  exact key _ _ ⟨.bl _, H, I, rfl, q⟩
end
end Pv

namespace Pv
open PySem PySem.Spec PyProof.Rows L2
/-! how large data is -/
mutual
def fit (M : Nat) : PyData → Prop
  | .none => True
  | .bool _ => True
  | .int i => i.natAbs ≤ M
  | .str x => (reprText x).length ≤ 40
  | .list xs => fitAll M xs
  | .tuple xs => fitAll M xs
  | .dict kvs => (PyData.shown (.dict kvs)).length ≤ 40 ∧ PyData.showable (.dict kvs) = true
def fitAll (M : Nat) : List PyData → Prop
  | [] => True
  | x :: xs => fit M x ∧ fitAll M xs
end
mutual
def wt : PyData → Nat
  | .none => 40
  | .bool _ => 40
  | .int _ => 40
  | .str _ => 40
  | .list xs => wtAll xs + 3
  | .tuple xs => wtAll xs + 3
  | .dict _ => 40
def wtAll : List PyData → Nat
  | [] => 0
  | x :: xs => wt x + 2 + wtAll xs
end
theorem int_text {i : Int} {M : Nat} (h : i.natAbs ≤ M) (hM : M < 10 ^ 35) : (PyData.int i).showable = true ∧ (PyData.int i).shown.length ≤ 40 := by
  have h' : i.natAbs < 10 ^ 35 := by omega
  refine ⟨?_, ?_⟩
  · simp only [PyData.showable, decide_eq_true_eq]
    have : i.natAbs.log2 < 200 := by
      by_cases h0 : i.natAbs = 0
      · rw [h0]; decide
      · exact (Nat.log2_lt h0).mpr (Nat.lt_trans h' (by decide))
    omega
  · have e := int_text_length_le10 (k := 35) (by decide) h'
    show (Str.ofString (toString i)).length ≤ 40
    rw [PySem.ofString_length]
    omega
mutual
theorem fit_ok {M : Nat} (hM : M < 10 ^ 35) : ∀ {d : PyData}, fit M d → d.showable = true ∧ d.shown.length ≤ wt d
  | .none, _ => by simp only [PyData.showable, PyData.shown, wt]; decide
  | .bool b, _ => by cases b <;> (simp only [PyData.showable, PyData.shown, wt]; decide)
  | .int i, h => by
    have := int_text (i := i) (M := M) (by simpa only [fit] using h) hM
    simp only [wt]; exact this
  | .str x, h => by simp only [fit] at h; simp only [PyData.showable, PyData.shown, wt]; exact ⟨trivial, h⟩
  | .list xs, h => by
    obtain ⟨h1, h2⟩ := fitAll_ok hM (xs := xs) (by simpa only [fit] using h)
    simp only [PyData.showable, PyData.shown, wt]
    refine ⟨h1, ?_⟩
    have e := listText_len_le (PyData.shownAll xs)
    omega
  | .tuple xs, h => by
    obtain ⟨h1, h2⟩ := fitAll_ok hM (xs := xs) (by simpa only [fit] using h)
    simp only [PyData.showable, PyData.shown, wt]
    refine ⟨h1, ?_⟩
    have e := tupleText_len_le (PyData.shownAll xs)
    omega
  | .dict kvs, h => by simp only [fit] at h; simp only [wt]; exact ⟨h.2, h.1⟩
theorem fitAll_ok {M : Nat} (hM : M < 10 ^ 35) : ∀ {xs : List PyData}, fitAll M xs → PyData.showableAll xs = true ∧ ((PyData.shownAll xs).map (·.length)).sum + 2 * (PyData.shownAll xs).length ≤ wtAll xs
  | [], _ => by simp [PyData.showableAll, PyData.shownAll, wtAll]
  | x :: xs, h => by
    have h' : fit M x ∧ fitAll M xs := by simpa only [fitAll] using h
    obtain ⟨a1, a2⟩ := fit_ok hM h'.1
    obtain ⟨b1, b2⟩ := fitAll_ok hM h'.2
    refine ⟨by simp [PyData.showableAll, a1, b1], ?_⟩
    simp only [PyData.shownAll, List.map_cons, List.sum_cons, List.length_cons, wtAll]
    omega
end
mutual
theorem fit_mono {M M' : Nat} (h : M ≤ M') : ∀ {d : PyData}, fit M d → fit M' d
  | .none, _ => by simp [fit]
  | .bool _, _ => by simp [fit]
  | .int i, q => by simp only [fit] at *; omega
  | .str x, q => by simpa only [fit] using q
  | .list xs, q => by simp only [fit] at *; exact fitAll_mono h q
  | .tuple xs, q => by simp only [fit] at *; exact fitAll_mono h q
  | .dict _, q => by simpa only [fit] using q
theorem fitAll_mono {M M' : Nat} (h : M ≤ M') : ∀ {xs : List PyData}, fitAll M xs → fitAll M' xs
  | [], _ => by simp [fitAll]
  | x :: xs, q => by
    have q' : fit M x ∧ fitAll M xs := by simpa only [fitAll] using q
    simp only [fitAll]
    exact ⟨fit_mono h q'.1, fitAll_mono h q'.2⟩
end
theorem fitAll_iff {M : Nat} : ∀ {xs : List PyData}, fitAll M xs ↔ ∀ x ∈ xs, fit M x
  | [] => by simp [fitAll]
  | x :: xs => by simp [fitAll, fitAll_iff (xs := xs)]
theorem wtAll_app : ∀ (xs ys : List PyData), wtAll (xs ++ ys) = wtAll xs + wtAll ys
  | [], ys => by simp [wtAll]
  | x :: xs, ys => by simp only [List.cons_append, wtAll, wtAll_app xs ys]; omega
theorem wtAll_rev : ∀ xs : List PyData, wtAll xs.reverse = wtAll xs
  | [] => rfl
  | x :: xs => by rw [List.reverse_cons, wtAll_app, wtAll_rev xs]; simp only [wtAll]; omega
theorem wtAll_split (xs : List PyData) (n : Nat) : wtAll xs = wtAll (xs.take n) + wtAll (xs.drop n) := by rw [← wtAll_app, List.take_append_drop]
theorem wtAll_len : ∀ xs : List PyData, 2 * xs.length ≤ wtAll xs
  | [] => by simp [wtAll]
  | x :: xs => by have := wtAll_len xs; simp only [wtAll, List.length_cons]; omega
theorem depthAll_le {k : Nat} : ∀ {xs : List PyData}, PyData.depthAll xs ≤ k ↔ ∀ x ∈ xs, x.depth ≤ k
  | [] => by simp [PyData.depthAll]
  | x :: xs => by
    have := depthAll_le (k := k) (xs := xs)
    simp only [PyData.depthAll, List.mem_cons, forall_eq_or_imp, ← this]
    omega
structure Fit (M k W : Nat) (d : PyData) : Prop where
  ok : fit M d
  dp : d.depth ≤ k
  wt : wt d ≤ W
theorem Fit.mono {M M' k k' W W' : Nat} {d : PyData} (h : Fit M k W d) (h1 : M ≤ M') (h2 : k ≤ k') (h3 : W ≤ W') : Fit M' k' W' d := ⟨fit_mono h1 h.ok, Nat.le_trans h.dp h2, Nat.le_trans h.wt h3⟩
theorem Fit.at {M k W : Nat} {ds : List PyData} {d : PyData} (h : Fit M k W (.tuple ds)) (hm : d ∈ ds) : Fit M (k - 1) W d ∧ d.depth + 1 ≤ (PyData.tuple ds).depth ∧ 1 ≤ k := by
  have h1 : fitAll M ds := by have := h.ok; simpa only [fit] using this
  have h2 := h.dp
  simp only [PyData.depth] at h2
  have h3 : ∀ x ∈ ds, x.depth ≤ PyData.depthAll ds := depthAll_le.mp (Nat.le_refl _)
  have h4 := h3 d hm
  refine ⟨⟨fitAll_iff.mp h1 d hm, by omega, ?_⟩, by simp only [PyData.depth]; omega, by omega⟩
  obtain ⟨a, b, rfl⟩ := List.append_of_mem hm
  have h5 := h.wt
  simp only [Pv.wt, wtAll_app, wtAll] at h5
  omega
/-- a tuple made of parts -/
theorem Fit.tup {M k W : Nat} {ds : List PyData} (h1 : ∀ d ∈ ds, fit M d ∧ d.depth + 1 ≤ k) (h0 : 1 ≤ k) (h2 : wtAll ds + 3 ≤ W) : Fit M k W (.tuple ds) := by
  refine ⟨by simp only [fit]; exact fitAll_iff.mpr fun d hd => (h1 d hd).1, ?_, by simpa only [Pv.wt] using h2⟩
  simp only [PyData.depth]
  have : PyData.depthAll ds ≤ k - 1 := depthAll_le.mpr fun d hd => by have := (h1 d hd).2; omega
  omega
theorem Fit.lst {M k W : Nat} {ds : List PyData} (h1 : ∀ d ∈ ds, fit M d ∧ d.depth + 1 ≤ k) (h0 : 1 ≤ k) (h2 : wtAll ds + 3 ≤ W) : Fit M k W (.list ds) := by
  refine ⟨by simp only [fit]; exact fitAll_iff.mpr fun d hd => (h1 d hd).1, ?_, by simpa only [Pv.wt] using h2⟩
  simp only [PyData.depth]
  have : PyData.depthAll ds ≤ k - 1 := depthAll_le.mpr fun d hd => by have := (h1 d hd).2; omega
  omega
theorem Fit.parts {M k W : Nat} {ds : List PyData} (h : Fit M k W (.tuple ds)) : (∀ d ∈ ds, fit M d ∧ d.depth + 1 ≤ k) ∧ 1 ≤ k ∧ wtAll ds + 3 ≤ W := by
  have h0 : 1 ≤ k := by have := h.dp; simp only [PyData.depth] at this; omega
  refine ⟨fun d hd => ⟨(h.at hd).1.ok, ?_⟩, h0, by have := h.wt; simpa only [Pv.wt] using this⟩
  have := (h.at hd).1.dp
  omega
theorem Fit.int {M k W : Nat} {i : Int} (h : i.natAbs ≤ M) (hW : 40 ≤ W) : Fit M k W (.int i) := ⟨by simpa only [fit] using h, by simp [PyData.depth], by simpa only [Pv.wt] using hW⟩
/-- what is shown together -/
theorem fit_pair {M : Nat} (hM : M < 10 ^ 35) {k W : Nat} {a b : PyData} (ha : Fit M k W a) (hb : Fit M k W b) (hk : k ≤ 50) (hW : W ≤ 1000000) :
    (PyData.list [a, b]).showable = true ∧ (PyData.list [a, b]).depth ≤ 60 ∧ (PyData.list [a, b]).shown.length ≤ sizeLine := by
  have h : Fit M (k + 1) (2 * W + 10) (.list [a, b]) := by
    refine Fit.lst ?_ (by omega) ?_
    · intro d hd
      rcases List.mem_cons.mp hd with rfl | hd
      · exact ⟨ha.ok, by have := ha.dp; omega⟩
      · rcases List.mem_cons.mp hd with rfl | hd
        · exact ⟨hb.ok, by have := hb.dp; omega⟩
        · cases hd
    · have h1 := ha.wt
      have h2 := hb.wt
      simp only [wtAll]; omega
  obtain ⟨s1, s2⟩ := fit_ok hM h.ok
  refine ⟨s1, Nat.le_trans h.dp (by omega), Nat.le_trans s2 (Nat.le_trans h.wt ?_)⟩
  rw [sizeLine_eq]; omega
/-! the data of instances and assignments -/
theorem fit_dI {M : Nat} {ns : List Int} (h : ∀ i ∈ ns, i.natAbs ≤ M) : Fit M 1 (ns.length * 42 + 3) (dI ns) := by
  have hw : wtAll (ns.map PyData.int) = ns.length * 42 := by
    clear h
    induction ns with
    | nil => rfl
    | cons a ns ih => simp only [List.map_cons, wtAll, wt, ih, List.length_cons]; omega
  refine Fit.tup ?_ (by decide) (by rw [hw]; exact Nat.le_refl _)
  intro d hd
  obtain ⟨i, hi, rfl⟩ := List.mem_map.mp hd
  exact ⟨by simpa only [fit] using h i hi, by simp [PyData.depth]⟩
theorem wtAll_le {W : Nat} : ∀ {ds : List PyData}, (∀ d ∈ ds, wt d ≤ W) → wtAll ds ≤ ds.length * (W + 2)
  | [], _ => by simp [wtAll]
  | d :: ds, h => by
    have h1 := h d (by simp)
    have h2 := wtAll_le (W := W) (ds := ds) (fun x hx => h x (by simp [hx]))
    simp only [wtAll, List.length_cons, Nat.succ_mul]; omega
theorem fit_dAsg {M : Nat} {rows : List (List Int)} (h : ∀ row ∈ rows, row.length ≤ 10 ∧ ∀ i ∈ row, i.natAbs ≤ M) (hr : rows.length ≤ 20) : Fit M 2 10000 (dAsg rows) := by
  unfold dAsg
  refine Fit.tup ?_ (by decide) ?_
  · intro d hd
    obtain ⟨row, hrow, rfl⟩ := List.mem_map.mp hd
    have := fit_dI (M := M) (h row hrow).2
    exact ⟨this.ok, by have := this.dp; omega⟩
  · have := wtAll_le (W := 430) (ds := rows.map dI) (by
      intro d hd
      obtain ⟨row, hrow, rfl⟩ := List.mem_map.mp hd
      have := (fit_dI (M := M) (h row hrow).2).wt
      have := (h row hrow).1
      omega)
    rw [List.length_map] at this
    omega
theorem fit_dInst {M : Nat} {cs : List Int} {gs : List Gp} (hc : cs.length ≤ 10 ∧ ∀ i ∈ cs, i.natAbs ≤ M) (hg : gs.length ≤ 20) (h : ∀ g ∈ gs, g.1.length ≤ 10 ∧ (∀ i ∈ g.1, i.natAbs ≤ M) ∧ g.2.natAbs ≤ M) : Fit M 5 20000 (dInst cs gs) := by
  have f1 := fit_dI hc.2
  have f2 : ∀ g ∈ gs, Fit M 2 600 (dGrp g) := by
    intro g hgm
    have f3 := fit_dI (M := M) (h g hgm).2.1
    have hl := (h g hgm).1
    unfold dGrp
    refine Fit.tup ?_ (by decide) ?_
    · intro d hd
      rcases List.mem_cons.mp hd with rfl | hd
      · exact ⟨f3.ok, by have := f3.dp; omega⟩
      · rcases List.mem_cons.mp hd with rfl | hd
        · exact ⟨by simpa only [fit] using (h g hgm).2.2, by simp [PyData.depth]⟩
        · cases hd
    · have := f3.wt
      simp only [wtAll, Pv.wt]; omega
  have f4 : Fit M 3 13000 (.tuple (gs.map dGrp)) := by
    refine Fit.tup ?_ (by decide) ?_
    · intro d hd
      obtain ⟨g, hgm, rfl⟩ := List.mem_map.mp hd
      exact ⟨(f2 g hgm).ok, by have := (f2 g hgm).dp; omega⟩
    · have := wtAll_le (W := 600) (ds := gs.map dGrp) (by
        intro d hd
        obtain ⟨g, hgm, rfl⟩ := List.mem_map.mp hd
        exact (f2 g hgm).wt)
      rw [List.length_map] at this
      omega
  unfold dInst
  refine Fit.tup ?_ (by decide) ?_
  · intro d hd
    rcases List.mem_cons.mp hd with rfl | hd
    · exact ⟨f1.ok, by have := f1.dp; omega⟩
    · rcases List.mem_cons.mp hd with rfl | hd
      · exact ⟨f4.ok, by have := f4.dp; omega⟩
      · cases hd
  · have h1 := f1.wt
    have h2 := f4.wt
    have := hc.1
    simp only [wtAll]; omega
end Pv

namespace Pv
open PySem PySem.Spec PyProof.Rows L2
section
variable {K : PySem.W.Frag} {H : Hp} {a b : Addr} {xs ys : List V} {Q : VK}
/-! slices and sums of tuples, whichever object comes back -/
theorem take_eq (hP : SqT K H a xs) (n : Nat) (h : ∀ (H' : Hp) (b : Addr), Same H H' → SqT K H' b (xs.take n) → Q (.ref b) H') : rSlA K (.ref a) none (some (n : Int)) H Q := by
  have hcut : cutV xs none (some (n : Int)) = xs.take n := cut_to _ n
  refine ⟨a, _, rfl, hP, fun hw => ?_, fun _ p np => ?_⟩
  · refine h H a (Same.refl _) ?_
    have e : xs.take n = xs := by
      rw [← hcut]
      unfold cutV
      rw [hw.1, hw.2, List.drop_zero, Nat.sub_zero, List.take_length]
    rw [e]; exact hP
  · refine h _ p (sameNew np) (SqT.of ?_)
    rw [upd_same, hcut]
theorem cut_tail (xs : List V) (n : Nat) : cutV xs (some (n : Int)) none = xs.drop n := by
  unfold cutV
  rw [HT.sIx_nat, HT.sIx_none]
  by_cases h : n ≤ xs.length
  · rw [Nat.min_eq_left h, List.take_of_length_le (by rw [List.length_drop]; exact Nat.le_refl _)]
  · rw [Nat.min_eq_right (by omega), List.drop_eq_nil_of_le (Nat.le_refl _), List.drop_eq_nil_of_le (by omega)]; simp
theorem drop_eq (hP : SqT K H a xs) (n : Nat) (h : ∀ (H' : Hp) (b : Addr), Same H H' → SqT K H' b (xs.drop n) → Q (.ref b) H') : rSlA K (.ref a) (some (n : Int)) none H Q := by
  have hcut := cut_tail xs n
  refine ⟨a, _, rfl, hP, fun hw => ?_, fun _ p np => ?_⟩
  · refine h H a (Same.refl _) ?_
    have e : xs.drop n = xs := by
      rw [← hcut]
      unfold cutV
      rw [hw.1, hw.2, List.drop_zero, Nat.sub_zero, List.take_length]
    rw [e]; exact hP
  · refine h _ p (sameNew np) (SqT.of ?_)
    rw [upd_same, hcut]
theorem cat_eq (ha : SqT K H a xs) (hb : SqT K H b ys) (hz : xs.length + ys.length ≤ sizeLine) (h : ∀ (H' : Hp) (p : Addr), Same H H' → SqT K H' p (xs ++ ys) → Q (.ref p) H') : rCatA K (.ref a) (.ref b) H Q := by
  refine ⟨a, b, xs, ys, rfl, rfl, ha, hb, hz, fun e => ?_, fun _ e => ?_, fun _ _ p np => ?_⟩
  · subst e; exact h H b (Same.refl _) (by simpa using hb)
  · subst e; exact h H a (Same.refl _) (by simpa using ha)
  · exact h _ p (sameNew np) (SqT.of upd_same)
end
/-! the greatest of a tuple of ints -/
def rMaxT (K : PySem.W.Frag) : RC := fun xs H Q => ∃ (a : Addr) (ns : List Int), xs = [.ref a] ∧ SqT K H a (ns.map V.int) ∧ 0 < ns.length ∧ ∀ m, m ∈ ns → (∀ y ∈ ns, y ≤ m) → Q (.int m) H
theorem call_maxT {X : Cx} (hc : X.calm = true) : CallR X (.builtin "max") (rMaxT X.K) := by
  intro pins s σ H xs us Q I r h
  obtain ⟨a, ns, rfl, hT, hne, q⟩ := h
  obtain ⟨u, rfl, rfl⟩ := vals1 r
  obtain ⟨its, rv, ht, hz⟩ := I.tuple hT
  have hi : IntsAre its ns := rv.ints
  obtain ⟨ys, e⟩ := hi.allInts.items
  have hn : numsOf (intItems ys).toList = ns := by rw [← e]; exact hi.numsOf
  rw [nums_intItems] at hn
  rw [e] at ht
  subst hn
  have hsz : 0 < ys.size := by simpa using hne
  have ht' : s.heap.IsTuple a (intItems ys) := ht
  have hlt : a < s.heap.objs.size := by obtain ⟨_, z, _⟩ := ht; exact Heap.lt_size z
  refine call_max_walk (wpAny_pyIter_tuple ht' ?_)
  refine ⟨_, _, _, _, _, _, _, rfl, Walks.tuple (A := X.A.in1) (I.ok.hd hc) _ a (Nat.ne_of_lt hlt) (intItems ys), ⟨⟨_, Heap.get?_push_size _ rfl, rfl, rfl⟩, ht'.push _⟩, ?_, by simpa [intItems] using hsz, CmpOf.ints_gt (numAt ys) (fun _ _ => intItems_at), ?_⟩
  · intro b hb
    show b < (s.heap.push _).objs.size
    rw [Heap.size_push]
    simp only [List.mem_cons, List.not_mem_nil, or_false] at hb
    rcases hb with rfl | rfl
    · exact Nat.lt_succ_self _
    · exact Nat.lt_succ_of_lt hlt
  · intro v h' tk hP hk
    have hP' : (intItems ys)[argBest (fun i j => decide (numAt ys i > numAt ys j)) (ys.size - 1)]? = some v := by simpa [intItems] using hP
    obtain ⟨t, rfl⟩ := intItems_at hP'
    obtain ⟨h1, h2⟩ := argBest_gt (numAt ys) (ys.size - 1)
    refine ⟨.int _, H, I.kept (t' := tk) (h' := h') ?_, ⟨_, rfl⟩, q _ ?_ ?_⟩
    · intro b o eb
      refine hk b o (fun hm => ?_) (Heap.get?_push_of_some _ eb)
      exact absurd (Heap.lt_size eb) ((List.mem_singleton.mp hm) ▸ Nat.lt_irrefl _)
    · rw [numAt_eq]; exact PySem.getD_mem (by rw [List.length_map, Array.length_toList]; omega)
    · intro y hy
      obtain ⟨j, hj, rfl⟩ := mem_getD hy
      rw [List.length_map, Array.length_toList] at hj
      rw [← numAt_eq]; exact h2 j (by omega)
end Pv

namespace Pv
open PySem PySem.Spec PyProof.Rows L2
theorem flat_intsT (ys : List Int) : (ys.map V.int).all flatV = true := by
  rw [List.all_map]; exact List.all_eq_true.mpr fun _ _ => rfl
/-- t.index(x) of ints: the first place -/
def rIxOf (K : PySem.W.Frag) : V → List V → Hp → VK → Prop := fun x xs H Q => ∃ (p : Addr) (ys : List Int) (z : Int) (j : Nat), x = .ref p ∧ xs = [.int z] ∧ SqT K H p (ys.map V.int) ∧ ys[j]? = some z ∧ (∀ m, m < j → ys[m]? ≠ some z) ∧ Q (.int (j : Nat)) H
theorem mt_indexT {X : Cx} : MtR X "tuple.index" (rIxOf X.K) := by
  intro pins s σ H x xs v us Q I rx rs h
  obtain ⟨p, ys, z, j, rfl, rfl, hq, hy, hno, q⟩ := h
  cases rx
  obtain ⟨u, rfl, t, rfl⟩ := vals1 rs
  obtain ⟨its, r, pl, hz⟩ := I.tuple hq
  obtain ⟨⟨cls, dd, dt, sl⟩, ho, hc, n, hd⟩ := pl
  simp only at hc hd
  subst hc
  subst hd
  have hl : its.toArray.size = ys.length := by rw [List.size_toArray, ← r.length, List.length_map]
  have hj : j < its.toArray.size := by rw [hl]; exact (List.getElem?_eq_some_iff.mp hy).1
  have at' : ∀ (m : Nat) (hm : m < its.toArray.size), ∃ y t', ys[m]? = some y ∧ its.toArray[m] = Value.int y t' := fun m hm => by
    have hm' : m < ys.length := by rw [← hl]; exact hm
    obtain ⟨w, hw, t', hw'⟩ := r.get (i := m) (x := .int ys[m]) (by simp [hm'])
    refine ⟨ys[m], t', List.getElem?_eq_getElem hm', ?_⟩
    have e := (List.getElem?_eq_some_iff.mp hw).2
    rw [← hw', ← e]
    simp
  refine call_meets PySem.F.slot_tuple_index ⟨_, ho, rfl⟩ PySem.F.entry_tuple_index (PySem.F.args_tuple_index_2 _ _) (TI.tuple_indexAt p its.toArray n dd sl (.int z t) (eqU (.int z)) j hj ?_ ?_)
    ⟨ho, fun w hw => mem_eqAt (x := .int z) ⟨t, rfl⟩ rfl r (flat_intsT ys) w (by simpa using hw), ⟨.int (j : Nat), H, I.tok _, ⟨_, rfl⟩, q⟩⟩
  · obtain ⟨y, t', h1, h2⟩ := at' j hj
    rw [hy] at h1
    cases h1
    rw [h2]
    show (z == z) = true
    exact beq_self_eq_true z
  · intro m hm hmj
    obtain ⟨y, t', h1, h2⟩ := at' m hm
    rw [h2]
    show (y == z) = false
    exact beq_eq_false_iff_ne.mpr fun e => hno m hmj (e ▸ h1)
end Pv

namespace Pv
open PySem PySem.Spec PyProof.Rows L2
/-! a tuple that tuple() made bears no attributes of its own, so a method of it is the class's -/
def NoD (H : Hp) (a : Addr) (xs : List V) : Prop := ∃ ob : Obj, H a = some (.frz ob (.tup xs)) ∧ ob.dict = none
theorem NoD.sq {K : PySem.W.Frag} {H : Hp} {a : Addr} {xs : List V} (h : NoD H a xs) : SqT K H a xs := by
  obtain ⟨ob, e, _⟩ := h
  exact .inl (.inr ⟨ob, e⟩)
theorem NoD.same {H H' : Hp} {a : Addr} {xs : List V} (h : NoD H a xs) (s : Same H H') : NoD H' a xs := by
  obtain ⟨ob, e, d⟩ := h
  exact ⟨ob, s _ _ e, d⟩
theorem NoD.ext {H H' : Hp} {a st c r : Addr} {t : Nat} {xs : List V} (h : NoD H a xs) (D : DS H st c r t) (x : Ext st r H H') : NoD H' a xs := by
  obtain ⟨ob, e, d⟩ := h
  obtain ⟨cells, rests, hc, hr, _⟩ := D.ex
  exact ⟨ob, x _ _ e (ne_of e D.hs (by intro z; cases z)) (ne_of e hr (by intro z; cases z)), d⟩
def rTupZ (K : PySem.W.Frag) : RC := fun xs H Q => ∃ (p : Addr) (ys : List V), xs = [.ref p] ∧ SqL K H p ys ∧ ∀ (l : Addr) (ob : Obj), H l = none → ob.dict = none → Q (.ref l) (upd H l (.frz ob (.tup ys)))
section
variable {X : Cx}
theorem call_tupZ : CallR X (.type "tuple") (rTupZ X.K) := by
  intro pins s σ H xs us Q I r h
  obtain ⟨p, ys, rfl, hq, q⟩ := h
  obtain ⟨u, rfl, rx⟩ := vals1 r
  cases rx
  obtain ⟨its, r', pl, hz⟩ := I.list hq
  have hlen := r'.length
  refine call_tuple_list pl.isList (fun h' kp => ?_) (by simp only [List.size_toArray]; omega)
  have I1 : Inv X pins σ H { s with heap := h' } := I.kept (t' := s.toks) kp
  have I2 : Inv X pins σ (upd H h'.objs.size (.frz { cls := .type "tuple", data := .seq its.toArray } (.tup ys))) { s with heap := h'.push { cls := .type "tuple", data := .seq its.toArray } } :=
    I1.laid (t' := s.toks) (fun b o e => Heap.get?_push_of_some _ e) (Nat.le_refl _) (show ObjOk X.prog X.w _ _ _ (.frz _ (.tup ys)) from ⟨Heap.get?_push_size _ rfl, hz, its, r', IsTup.new _ _⟩)
  exact ⟨.ref h'.objs.size, _, I2, rfl, q _ _ (I1.hok.fresh (Nat.le_refl _)) rfl⟩
def tBT (r : V → List V → Hp → VK → Prop) (to : TE) (t : TA) : TE := fun σ H Q => to σ H fun x H1 => (∃ a xs, x = .ref a ∧ NoD H1 a xs) ∧ t σ H1 fun xs H2 => r x xs H2 Q
theorem pe_bmT {o e : Expr} {es : List Expr} {to : TE} {t : TA} {name : Str} {apos cpos : Pos} {id : String} {r : V → List V → Hp → VK → Prop}
    (slot : Slot "tuple" name id) (hty : typeOf (.builtin id) = pure (.type "method_descriptor")) (hm : MtR X id r) (ho : PE X o to) (ha : PA X (e :: es) t)
    (hbase : attributeBase o name X.env (eval o X.env) = eval o X.env := by rfl)
    (hfew : ((backTo cpos (starEach (e :: es) X.env)).all (fun x => !x.1) && (backToKw cpos (keywordEach [] X.env)).all (fun x => x.1.isSome)
      && decide ((e :: es).length + ([] : List Keyword).length + (if ([] : List Keyword).isEmpty then 0 else 1) < 30)) = true := by rfl)
    (hline : (apos.endLine == cpos.line) = true := by rfl) (hs : starEach (e :: es) X.env = (false, eval e X.env) :: starEach es X.env := by rfl) (hplain : (backTo cpos (starEach es X.env)).any (·.1) = false := by rfl) :
    PE X (.Call (.Attribute o name apos) (e :: es) [] cpos) (tBT r to t) := by
  refine ⟨fun pins s σ H Q I h => ?_⟩
  refine wpAny_Call_method_late hbase hfew hline rfl (thn (ho.run pins s σ H _ I h) fun v s1 ⟨x, H1, I1, r1, ty, q1⟩ => ?_)
  obtain ⟨a, xs, rfl, ob, ea, hd⟩ := ty
  cases (show v = Value.ref a from r1)
  obtain ⟨hg, _, its, _, o', hg', hc', _⟩ := (show ObjOk X.prog X.w H1 s1.heap a (.frz ob (.tup xs)) from I1.hok a _ ea)
  rw [hg] at hg'
  cases hg'
  refine ⟨"tuple", id, PySem.F.plainAttrs_tuple, slot, hty, ⟨ob, hg, hc'⟩, fun b e => by cases e; exact ⟨ob, hg, hd⟩, ?_⟩
  have hA := ha.run cpos pins s1 σ H1 _ I1 q1
  rw [hs] at hA ⊢
  refine Calls.callWith_builtin (by show (false || (backTo cpos (starEach es X.env)).any (·.1)) = false; rw [hplain] <;> rfl) (Calls.evalArgs_plain ?_)
  exact thn hA fun us s2 ⟨vs, H2, I2, r2, q2⟩ => hm pins s2 σ H2 (.ref a) vs _ us Q I2 rfl r2 q2
end
end Pv

namespace Pv
open PySem PySem.Spec PyProof.Rows L2
/-! errors of the program's own classes -/
abbrev VEbm : List Value := [.type "ValueError", .type "Exception", .type "BaseException", .type "object"]
theorem pmk_own0 {X : Cx} {C : Addr} {bmB : List Value} {B newId initId : String} {x : Str} {p pos : Pos} (F : ExcBaseFacts B newId initId bmB) (q : PySem.W.excIn X.K C bmB newId = true) (gC : X.mg x = some (.ref C))
    (kC : PySem.W.keepIn X.K (.ref C) = true) (r : Raises X (.ref C)) (hg : Gl X x) (hdb : (x == ("__debug__" : Str)) = false := by decide) :
    PMk X (.Call (.Name x p) [] [] pos) (fun _ H Q => Q (.ref C) none H) := by
  intro pins s σ H Q I h
  refine wpAny_Call_Name_kw (ld_glob I hg gC ?_ hdb)
  refine PySem.W.callWith_K0 I.kIn kC ?_
  obtain ⟨bm, N, nm, qn, bs, hdct, sn, sub, ab, col, dd, k0, k1, k2, k3, k5, mN, hC, hN, hni, T⟩ := exc_obj I.kIn q
  show wpAny _ _ (call (.ref C) []) _ _ _
  refine wpAny_call_exc_subT F T hC hN hni (fun h' e hm => ?_) (Nat.zero_le _)
  exact mk_of I hm r h (I.hok.gone hm.new)
/-- what is asked of a class whose errors isinstance is asked of -/
structure IsC (K : PySem.W.Frag) (D : Addr) : Prop where
  cl : (PySem.W.clsIn K D).isSome = true
  hg : PySem.W.findIn K (.ref D) "__getattribute__" = some (some (.builtin "BaseException.__getattribute__"))
  hk : PySem.W.findIn K (.ref D) "__getattr__" = some none
  hs : PySem.W.subIn K (.ref D) (.type "BaseException") = some true
  ty : PySem.W.typeIn K (.ref D) = some (.type "type")
  ha : PySem.W.findIn K (.ref D) "__class__" = some (some (.builtin "object.__class__"))
  hn : PySem.W.specialIn K (.builtin "object.__class__") "__get__" = some (some (.builtin "getset_descriptor.__get__"))
  ht : PySem.W.takesIn K (.builtin "object.__class__") = some true
  hm : PySem.W.mroIn K D (.type "object") = some true
  kp : PySem.W.keepIn K (.ref D) = true
def isCB (K : PySem.W.Frag) (D : Addr) : Bool :=
  (PySem.W.clsIn K D).isSome && (decide (PySem.W.findIn K (.ref D) "__getattribute__" = some (some (.builtin "BaseException.__getattribute__"))) && (decide (PySem.W.findIn K (.ref D) "__getattr__" = some none) &&
  (decide (PySem.W.subIn K (.ref D) (.type "BaseException") = some true) && (decide (PySem.W.typeIn K (.ref D) = some (.type "type")) && (decide (PySem.W.findIn K (.ref D) "__class__" = some (some (.builtin "object.__class__"))) &&
  (decide (PySem.W.specialIn K (.builtin "object.__class__") "__get__" = some (some (.builtin "getset_descriptor.__get__"))) && (decide (PySem.W.takesIn K (.builtin "object.__class__") = some true) &&
  (decide (PySem.W.mroIn K D (.type "object") = some true) && PySem.W.keepIn K (.ref D)))))))))
theorem isCB_ok {K : PySem.W.Frag} {D : Addr} (h : isCB K D = true) : IsC K D := by
  simp only [isCB, Bool.and_eq_true, decide_eq_true_eq] at h
  obtain ⟨h1, h2, h3, h4, h5, h6, h7, h8, h9, h10⟩ := h
  exact ⟨h1, h2, h3, h4, h5, h6, h7, h8, h9, h10⟩
theorem IsC.raises {X : Cx} {D : Addr} (c : IsC X.K D) : Raises X (.ref D) := raises_own c.hs c.ty
/-- isinstance(e, c), e the error that the suite holds, c a class or a tuple of classes -/
def rIsX (K : PySem.W.Frag) (a : Addr) (cls : Value) (d : Option Addr) : RC := fun xs H Q => ∃ (D : Addr) (c : V) (b : Bool), cls = .ref D ∧ IsC K D ∧ (∀ dx, d = some dx → ∃ fs, H dx = some (.xd fs)) ∧ xs = [.ref a, c] ∧
  ((∃ u, ClsV c u ∧ PySem.W.kitOne K (.ref D) u = some b) ∨ ∃ (tp : Addr) (cs : List V) (us : List Value), c = .ref tp ∧ H tp = some (.tup cs) ∧ Paired ClsV cs us ∧ PySem.W.kitAny K (.ref D) us = some b) ∧ Q (.bl b) H
theorem call_isX {X : Cx} {a : Addr} {oe : Obj} {cls : Value} {d : Option Addr} {pn : List (Addr × Obj)} (hz : Zc cls d oe) (hf : ∃ vs, oe.data = .fields vs) : CallR (X.suite a ((a, oe) :: pn)) (.builtin "isinstance") (rIsX X.K a cls d) := by
  intro pins s σ H xs us Q I r h
  obtain ⟨D, c, b, rfl, C, hdx, rfl, hc, q⟩ := h
  obtain ⟨u1, u2, rfl, r1, r2⟩ := vals2 r
  cases (show u1 = Value.ref a from r1)
  obtain ⟨hget, _⟩ := I.pin (a, oe) (List.mem_append.mpr (.inl List.mem_cons_self))
  obtain ⟨vs, hv⟩ := hf
  have J : ∃ od, PySem.W.InstAt s.heap a oe D od := by
    cases d with
    | none =>
      refine ⟨none, hget, hz.1, by unfold PySem.W.notCls; rw [hv] <;> rfl, ?_⟩
      rw [hz.2]; trivial
    | some dx =>
      obtain ⟨fs, e⟩ := hdx dx rfl
      have hx : ObjOk X.prog X.w H s.heap dx (.xd fs) := I.hok dx _ e
      obtain ⟨mA, hns, _⟩ := hx
      obtain ⟨od, ho, _⟩ := lookIn_ns hns
      exact ⟨some od, hget, hz.1, by unfold PySem.W.notCls; rw [hv] <;> rfl, by rw [hz.2]; exact ho⟩
  obtain ⟨od, J⟩ := J
  have Z := PySem.W.kitx_exc (K := X.K) (x := a) (C := D) (ox := oe) (od := od) C.cl C.hg C.hk C.hs C.ha C.hn C.ht C.hm
  rcases hc with ⟨u, ku, e⟩ | ⟨tp, cs, ws, rfl, hT, ks, e⟩
  · have e2 := ku.eq r2
    subst e2
    exact PySem.W.kia_one Z I.kIn J e (fun z => nomatch z) fun tk => ⟨.bl b, H, I.kept (t' := tk) fun _ _ z => z, rfl, q⟩
  · cases (show u2 = Value.ref tp from r2)
    obtain ⟨_, its, rv, o, h1, h2, n, h3⟩ := (show ObjOk X.prog X.w H s.heap tp (.tup cs) from I.hok tp _ hT)
    have e3 := ClsV.all ks rv
    subst e3
    obtain ⟨oc, od', dt, sl⟩ := o
    simp only at h2 h3
    subst h2 h3
    exact PySem.W.kia_tup Z I.kIn J h1 e (fun z => nomatch z) fun tk => ⟨.bl b, H, I.kept (t' := tk) fun _ _ z => z, rfl, q⟩
end Pv

namespace Pv
open PySem PySem.Spec PyProof.Rows L2
/-! an error with one field of its own -/
def inCls (st : Stmt) (i : Nat) : Stmt := match st with
  | .ClassDef _ _ _ body _ _ _ _ _ _ _ => body.getD i (.Pass ⟨0, 0, 0, 0⟩)
  | _ => .Pass ⟨0, 0, 0, 0⟩
def spI1 (C : Addr) (fld : Str) : Sp := fun vs H Q _ => ∃ (a : Addr) (v : V), vs = [.ref a, v] ∧ H a = some (exo a C none) ∧ ∀ dx, H dx = none → dx ≠ a → Q .non (upd (upd H dx (exd dx [(fld, v)])) a (exo a C (some dx)))
theorem mkO1 {C : Addr} {fld : Str} {v : V} {H1 : Hp} {Q : XK} (h : ∀ d, H1 d = none → Q (.ref C) (some d) (upd H1 d (.xd [(fld, v)]))) :
    [v].length ≤ 1000 ∧ ∀ a, H1 a = none → spI1 C fld (.ref a :: ([v] ++ [])) (upd H1 a (exo a C none))
      (fun v' H2 => v' = .non ∧ ∃ (d : Addr) (fs : List (Str × V)), H2 a = some (exo a C (some d)) ∧ H2 d = some (exd d fs) ∧ H1 d = none ∧ Q (.ref C) (some d) (upd (del H2 a) d (.xd fs))) (fun _ _ _ => False) := by
  refine ⟨by simp, fun a na => ⟨a, v, rfl, upd_same, fun dx nd ne => ⟨rfl, dx, [(fld, v)], upd_same, ?_, ?_, ?_⟩⟩⟩
  · rw [upd_ne ne]; exact upd_same
  · rw [upd_ne ne] at nd; exact nd
  · have nd1 : H1 dx = none := by rw [upd_ne ne] at nd; exact nd
    have e : upd (del (upd (upd (upd H1 a (exo a C none)) dx (exd dx [(fld, v)])) a (exo a C (some dx))) a) dx (.xd [(fld, v)]) = upd H1 dx (.xd [(fld, v)]) := by
      funext b
      by_cases hb : b = dx
      · rw [hb, upd_same, upd_same]
      · rw [upd_ne hb, upd_ne hb]
        by_cases ha : b = a
        · rw [ha, del_same, na]
        · rw [del_ne ha, upd_ne ha, upd_ne hb, upd_ne ha]
    rw [e]
    exact h dx nd1
/-- what the written part says of such a class -/
structure XF (K : PySem.W.Frag) (C fI : Addr) (fld : Str) : Prop where
  T : OexC K C
  iC : PySem.W.findIn K (.ref C) "__init__" = some (some (.ref fI))
  tI : PySem.W.typeIn K (.ref fI) = some (.type "function")
  no : PySem.W.findIn K (.ref C) fld = some none
  rd : XfC K C
def xf1B (K : PySem.W.Frag) (C fI : Addr) (fld : Str) : Bool :=
  decide (PySem.W.findIn K (.ref C) "__setattr__" = some (some (.builtin "object.__setattr__"))) && (decide (PySem.W.subIn K (.ref C) (.type "BaseException") = some true) && (decide (PySem.W.typeIn K (.ref C) = some (.type "type")) && (PySem.W.keepIn K (.ref C) &&
  (decide (PySem.W.findIn K (.ref C) "__init__" = some (some (.ref fI))) && (decide (PySem.W.typeIn K (.ref fI) = some (.type "function")) && (decide (PySem.W.findIn K (.ref C) fld = some none) && xfB K C))))))
theorem xf1B_ok {K : PySem.W.Frag} {C fI : Addr} {fld : Str} (h : xf1B K C fI fld = true) (c : ∃ nm q N bs bm sn sub ab col dd k0 k1 k2 k3 k5, K.lookup C = some (excClassObj nm q C N bs bm true sn sub ab col dd k0 k1 k2 k3 k5 "ValueError.__new__") ∧ PySem.HandSPX.refsVE bm = true) : XF K C fI fld := by
  simp only [xf1B, Bool.and_eq_true, decide_eq_true_eq] at h
  obtain ⟨h1, h2, h3, h4, h5, h6, h7, h8⟩ := h
  exact ⟨⟨c, h1, h2, h3, h4⟩, h5, h6, h7, xfB_ok h8⟩
end Pv

namespace Pv
open PySem PySem.Spec PyProof.Rows L2
def topS (i : Nat) : Stmt := PySem.Challenge.pw_postvote_k54_posts_relabelled_and_instan.main.body.getD i (.Pass ⟨0, 0, 0, 0⟩)
abbrev sDraw : Stmt := topS 11
abbrev sStart : Stmt := topS 10
abbrev sOne : Stmt := topS 12
theorem scDraw : FnScope ["_law_deck_here", "_law_many", "_law_cells", "_law_rests", "_law_count", "_law_index", "_law_digit", "_law_mixed_here"] ["_law_deck_here", "_law_many"] (defScope sDraw) :=
  ⟨rfl, rfl, rfl, by decide +kernel, rfl, by decide +kernel, by decide +kernel⟩
theorem scStart : FnScope ["_law_script", "_law_cells", "_law_cell"] ["_law_script"] (defScope sStart) := ⟨rfl, rfl, rfl, by decide +kernel, rfl, by decide +kernel, by decide +kernel⟩
theorem scOne : FnScope ["_law_deck_here", "_law_items"] ["_law_deck_here", "_law_items"] (defScope sOne) := ⟨rfl, rfl, rfl, by decide +kernel, rfl, by decide +kernel, by decide +kernel⟩
section
variable {P : Program} {w : World} {K : PySem.W.Frag} {mg : Str → Option Value} {base : Heap}
def spDraw : Sp := fun vs H Q _ => ∃ (st c r : Addr) (t : Nat) (m : Int), vs = [.ref st, .int m] ∧ DS H st c r t ∧ t < 1000000 ∧ 0 < m ∧ m ≤ 2 ^ 60 ∧
  ∀ (H' : Hp) (d : Int), 0 ≤ d → d < m → DS H' st c r (t + 1) → Ext st r H H' → Q (.int d) H'
set_option maxHeartbeats 1000000 in
theorem ok_draw {f : Addr} {fd : FuncData} {k : Nat} (F : Fun K "_law_next" "_law_next" sDraw f fd) (ml : mg "len" = none) : FnOk P w K mg base CX0 (k + 1) f fd ["_law_deck_here", "_law_many"] spDraw := by
  refine F.ok scDraw (fun vs H Q E h => ?_) (fun cdv A outer s H vs Q E hr h => ?_)
  · obtain ⟨st, c, r, t, m, rfl, _⟩ := h
    rfl
  · obtain ⟨st, c, r, t, m, rfl, hd, ht, hm, hm2, q⟩ := h
    obtain ⟨cells, rests, hc, hrr, hl, hl0, hl1, hnn⟩ := hd.ex
    refine ⟨_, pss_cons (ps_asg (pv 0) (pg_unl rfl (pgs_cons (pg_name (i := 2) scDraw.nd rfl (.inl rfl)) (pgs_cons (pg_name (i := 3) scDraw.nd rfl (.inl rfl)) (pgs_cons (pg_name (i := 4) scDraw.nd rfl (.inl rfl)) pgs_nil)))))
      (pss_cons (ps_asg (pe_op op_add (pv 4) pe_int) (pg_sub (pv 0) pe_int set_list))
      (pss_cons (ps_set (i := 5) scDraw.nd rfl (.inl rfl) (pe_op op_mod (pv 4) (pe_callB call_len_seq (by rfl) ml PySem.boot_len (pa_cons (pv 2) pa_nil))))
      (pss_cons (ps_if (pt_cmpR op_gt (pe_ix ix_list (pv 3) (pv 5) (fun _ _ => rfl)) pe_int (nomark _))
        (pss_cons (ps_set (i := 6) scDraw.nd rfl (.inl rfl) (pe_op op_mod (pe_ix ix_list (pv 3) (pv 5) (fun _ _ => rfl)) (pv 1)))
        (pss_cons (ps_asg (pe_op op_fdivW (pe_ix ix_list (pv 3) (pv 5) (fun _ _ => rfl)) (pv 1)) (pg_sub (pv 3) (pv 5) set_list))
        (pss_one (ps_ret (pv 6))))) pss_nil)
      (pss_cons (ps_set (i := 7) scDraw.nd rfl (.inl rfl) (pe_op op_mul (pe_op op_add (pe_op op_add (pe_ix ix_list (pv 2) (pv 5) (fun _ _ => rfl)) (pe_op op_mul pe_int (pv 4))) pe_int) (pe_op op_add pe_int (pe_op op_mul pe_int (pv 4)))))
      (pss_cons (ps_set (i := 7) scDraw.nd rfl (.inl rfl) (pe_op op_mod (pe_op op_add (pv 7) (pe_op op_mul pe_int (pv 4))) pe_int))
      (pss_cons (ps_set (i := 7) scDraw.nd rfl (.inl rfl) (pe_op op_mod (pe_op op_add (pe_op op_mul (pv 7) (pv 7)) pe_int) pe_int))
      (pss_cons (ps_set (i := 7) scDraw.nd rfl (.inl rfl) (pe_op op_mod (pe_op op_mul (pv 7) (pv 7)) pe_int))
      (pss_one (ps_ret (pe_op op_mod (pe_op op_fdiv (pv 7) pe_int) (pv 1))))))))))), ?_⟩
    refine ⟨.ref st, rfl, st, _, rfl, SqL.of hd.hs, rfl, .ref c, _, rfl, .ref r, _, rfl, .int t, _, rfl, rfl, ?_⟩
    -- deck[2] = count + 1
    refine ⟨.int t, rfl, _, _, rfl, rfl, .ref st, rfl, st, _, 2, 2, rfl, rfl, hd.hs, rfl, ?_⟩
    have e1 : (upd H st (.lst [.ref c, .ref r, .int ((t : Int) + 1)])) r = some (.lst (rests.map V.int)) := by rw [upd_ne hd.n3.symm]; exact hrr
    have e2 : (upd H st (.lst [.ref c, .ref r, .int ((t : Int) + 1)])) c = some (.lst (cells.map V.int)) := by rw [upd_ne hd.n2.symm]; exact hc
    have ex0 : Ext st r H (upd H st (.lst [.ref c, .ref r, .int ((t : Int) + 1)])) := fun b o h n1 _ => by rw [upd_ne n1]; exact h
    have d0 : DS (upd H st (.lst [.ref c, .ref r, .int ((t : Int) + 1)])) st c r (t + 1) := ⟨upd_same, ⟨cells, rests, e2, e1, hl, hl0, hl1, hnn⟩, hd.n1, hd.n2, hd.n3⟩
    -- index
    refine ⟨.int t, rfl, .ref c, rfl, c, _, rfl, .inl (SqL.of e2), _, _, rfl, rfl, by rw [List.length_map]; omega, ?_⟩
    have hn : (List.map V.int cells).length = cells.length := List.length_map ..
    have hsp : ((t : Int) % (((List.map V.int cells).length : Nat) : Int)) = ((t % cells.length : Nat) : Int) := by rw [hn]; norm_cast
    have hlt : t % cells.length < cells.length := Nat.mod_lt _ hl0
    generalize hj : t % cells.length = j at hsp hlt
    obtain ⟨x, hx⟩ : ∃ x, rests[j]? = some x := ⟨rests[j], List.getElem?_eq_getElem (by omega)⟩
    obtain ⟨y, hy⟩ : ∃ y, cells[j]? = some y := ⟨cells[j], List.getElem?_eq_getElem (by omega)⟩
    have hx0 : 0 ≤ x := hnn x (List.mem_of_getElem? hx)
    have hxv : (rests.map V.int)[j]? = some (.int x) := by rw [List.getElem?_map, hx]; rfl
    have hyv : (cells.map V.int)[j]? = some (.int y) := by rw [List.getElem?_map, hy]; rfl
    dsimp only
    rw [hsp]
    refine ⟨.ref r, rfl, .int j, rfl, r, _, _, .int x, rfl, rfl, SqL.of e1, atI_nat hxv, _, _, rfl, rfl, _, rfl, ite2 (fun hgt => ?_) (fun hle => ?_)⟩
    · refine ⟨.ref r, rfl, .int j, rfl, r, _, _, .int x, rfl, rfl, SqL.of e1, atI_nat hxv, .int m, rfl, _, _, rfl, rfl, hm, ?_⟩
      refine ⟨.ref r, rfl, .int j, rfl, r, _, _, .int x, rfl, rfl, SqL.of e1, atI_nat hxv, .int m, rfl, _, _, rfl, rfl, wide_div (b := 61) hm (by omega) (by decide) (by decide), ?_⟩
      refine ⟨.ref r, rfl, .int j, rfl, r, _, _, j, rfl, rfl, e1, ixN_nat (by rw [List.length_map]; omega), ?_⟩
      refine ⟨_, rfl, q _ _ (Int.emod_nonneg _ (by omega)) (Int.emod_lt_of_pos _ hm) ?_ ?_⟩
      · refine ⟨by rw [upd_ne hd.n3]; exact upd_same, ⟨cells, rests.set j (x / m), by rw [upd_ne hd.n1]; exact e2, by rw [upd_same, List.map_set], by rw [List.length_set]; exact hl, hl0, hl1, ?_⟩, hd.n1, hd.n2, hd.n3⟩
        intro z hz
        rcases List.mem_or_eq_of_mem_set hz with h | h
        · exact hnn z h
        · rw [h]; exact Int.ediv_nonneg hx0 (by omega)
      · exact fun b o h n1 n2 => by rw [upd_ne n2]; exact ex0 b o h n1 n2
    · refine ⟨.ref c, rfl, .int j, rfl, c, _, _, .int y, rfl, rfl, SqL.of e2, atI_nat hyv, .int t, rfl, _, _, rfl, rfl, .inl ⟨by decide, by decide⟩, _, _, rfl, rfl, _, _, rfl, rfl, .int t, rfl, _, _, rfl, rfl, .inl ⟨by decide, by decide⟩, _, _, rfl, rfl, _, _, rfl, rfl, .inr ⟨by omega, by omega⟩, ?_⟩
      refine ⟨_, rfl, .int t, rfl, _, _, rfl, rfl, .inl ⟨by decide, by decide⟩, _, _, rfl, rfl, _, _, rfl, rfl, (by show (0 : Int) < 2305843009213693951; decide), ?_⟩
      dsimp only
      generalize hu : ((y + 1301 * (t : Int) + 23) * (50021 + 2 * (t : Int)) + 90001 * (t : Int)) % 2305843009213693951 = u
      have hu1 : 0 ≤ u := by rw [← hu]; exact Int.emod_nonneg _ (by decide)
      have hu2 : u < 2305843009213693951 := by rw [← hu]; exact Int.emod_lt_of_pos _ (by decide)
      refine ⟨.int u, rfl, .int u, rfl, _, _, rfl, rfl, .inl ⟨by omega, by omega⟩, _, _, rfl, rfl, _, _, rfl, rfl, (by show (0 : Int) < 2305843009213693921; decide), ?_⟩
      dsimp only
      generalize hv : (u * u + 60013) % 2305843009213693921 = v
      have hv1 : 0 ≤ v := by rw [← hv]; exact Int.emod_nonneg _ (by decide)
      have hv2 : v < 2305843009213693921 := by rw [← hv]; exact Int.emod_lt_of_pos _ (by decide)
      refine ⟨.int v, rfl, .int v, rfl, _, _, rfl, rfl, .inl ⟨by omega, by omega⟩, _, _, rfl, rfl, (by show (0 : Int) < 2305843009213693951; decide), ?_⟩
      refine ⟨_, rfl, _, _, rfl, rfl, ⟨by decide, by decide⟩, .int m, rfl, _, _, rfl, rfl, hm, ?_⟩
      exact q _ _ (Int.emod_nonneg _ (by omega)) (Int.emod_lt_of_pos _ hm) d0 ex0
def spStart (K : PySem.W.Frag) : Sp := fun vs H Q _ => ∃ (a : Addr) (ns : List Int), vs = [.ref a] ∧ SqL K H a (ns.map V.int) ∧ ns.length ≤ 63 ∧
  ∀ H' st c r, Same H H' → DS H' st c r 0 → Q (.ref st) H'
set_option maxHeartbeats 2000000 in
theorem ok_start {f : Addr} {fd : FuncData} {k : Nat} (F : Fun K "_law_deck" "_law_deck" sStart f fd) (ma : mg "abs" = none) (mi : mg "int" = none) (ml : mg "len" = none) :
    FnOk P w K mg base CX0 (k + 1) f fd ["_law_script"] (spStart K) := by
  refine F.ok scStart (fun vs H Q E h => ?_) (fun cdv A outer s H vs Q E hr h => ?_)
  · obtain ⟨a, ns, rfl, _⟩ := h; rfl
  · obtain ⟨a, ns, rfl, hS, hn, q⟩ := h
    refine ⟨_, pss_cons (ps_set (i := 1) scStart.nd rfl (.inl rfl) (pe_op op_cat
        (pe_lc (own := [("_law_cell", 2)]) (g := gName 2) (tt := tYes) rfl scStart.nd (pi_list (pe_slice sl_list (pv 0) po_none (po_some pe_int))) (blkOk_by (N := ["_law_script", "_law_cells", "_law_cell"]) (sc := defScope sStart) (by decide +kernel))
            (fun _ _ _ _ _ => pg_name (i := 2) scStart.nd rfl (.inl rfl)) (fun _ _ _ _ _ => pts_nil)
            (fun _ _ _ _ _ => pe_callB call_abs (by rfl) ma (by decide +kernel) (pa_cons (pv 2) pa_nil)))
        (pe_op op_rep (pe_lst (pa_cons pe_int pa_nil)) (pe_callTy call_int1 (by rfl) mi (by decide +kernel) (pa_cons (pe_cmpR op_eq (pe_callB call_len_seq (by rfl) ml PySem.boot_len (pa_cons (pv 0) pa_nil)) pe_int (nomark _)) pa_nil)))))
      (pss_one (ps_ret (pe_lst (pa_cons (pv 1) (pa_cons
        (pe_lc (own := [("_law_cell", 2)]) (g := gName 2) (tt := tYes) rfl scStart.nd (pi_list (pv 1)) (blkOk_by (N := ["_law_script", "_law_cells", "_law_cell"]) (sc := defScope sStart) (by decide +kernel))
            (fun _ _ _ _ _ => pg_name (i := 2) scStart.nd rfl (.inl rfl)) (fun _ _ _ _ _ => pts_nil)
            (fun _ _ _ _ _ => pe_op op_mul (pv 2) (pe_callTy call_int1 (by rfl) mi (by decide +kernel) (pa_cons (pe_cmpR op_ge (pv 2) (pe_op op_pow pe_int pe_int) (nomark _)) pa_nil))))
        (pa_cons pe_int pa_nil)))))), ?_⟩
    have hcut : cutV (ns.map V.int) none (some 61) = (ns.take 61).map V.int := by rw [List.map_take]; exact cut_to _ 61
    refine ⟨.ref a, rfl, 61, rfl, a, _, rfl, hS, fun p np => ⟨p, rfl, ⟨_, SqL.of upd_same⟩, fun D nD => lc_list (xs := cutV (ns.map V.int) none (some 61))
      (fun j H2 => Same (upd H p (.lst (cutV (ns.map V.int) none (some 61)))) H2 ∧ H2 D = some (.lst ((((ns.take 61).map absI).take j).map V.int)))
      ⟨sameNew nD, upd_same⟩ (fun j H2 _ h2 => SqL.of (h2.1 _ _ upd_same)) ?_ ?_⟩⟩
    · rintro j x H2 hx ⟨s2, e2⟩
      rw [hcut, List.getElem?_map] at hx
      obtain ⟨z, hz, rfl⟩ := Option.map_eq_some_iff.mp hx
      refine ⟨rfl, .int z, rfl, z, rfl, _, e2, ?_, samePut s2 nD, ?_⟩
      · rw [List.length_map, List.length_take]; simp; exact small (by omega)
      · rw [upd_same, take_snoc (show ((ns.take 61).map absI)[j]? = some (absI z) by rw [List.getElem?_map, hz]; rfl), List.map_append]; rfl
    · rintro H2 ⟨s2, e2⟩
      rw [hcut, List.length_map, List.take_of_length_le (by simp)] at e2
      have s02 : Same H H2 := (sameNew np).trans s2
      -- [0] * int(len(script) == 0)
      refine ⟨by decide, fun p1 n1 => ⟨.ref a, rfl, a, _, rfl, .inl (((s02.trans (sameNew n1))).seq hS), rfl, .inr ⟨_, rfl, p1, _, _, rfl, rfl, upd_same, by split <;> decide, by split <;> decide, by split <;> decide, fun p2 n2 => ?_⟩⟩⟩
      generalize hb : decide (V.int ((List.map V.int ns).length : Int) = V.int 0) = b at n2 ⊢
      have e2' := upNew n2 (o := .lst (List.replicate (if b = true then (1 : Int) else 0).toNat [V.int 0]).flatten) (upNew n1 (o := .lst [.int 0]) e2)
      have hl0 : ns.length = 0 ↔ b = true := by
        rw [← hb, decide_eq_true_eq, List.length_map]
        constructor
        · intro h; rw [h]; rfl
        · intro h; have := V.int.inj h; omega
      have hrep : (List.replicate (if b = true then (1 : Int) else 0).toNat [V.int 0]).flatten = ((if b = true then [0] else []) : List Int).map V.int := by
        cases b <;> rfl
      refine ⟨D, p2, _, _, rfl, rfl, e2', upd_same, ?_, fun C nC => ?_⟩
      · rw [hrep, List.length_map, List.length_map, List.length_map, List.length_take]; have : (if b = true then [0] else [] : List Int).length ≤ 1 := by split <;> simp
        have h5 := small (n := 100) (by omega); omega
      rw [hrep, ← List.map_append] at *
      generalize hcl : (List.take 61 ns).map absI ++ (if b = true then [0] else []) = cells
      have hnn : ∀ c ∈ cells, 0 ≤ c := by
        intro c hc
        rw [← hcl, List.mem_append] at hc
        rcases hc with h | h
        · obtain ⟨i, _, rfl⟩ := List.mem_map.mp h; exact absI_nn i
        · split at h
          · simp at h; omega
          · simp at h
      have hcl0 : 0 < cells.length ∧ cells.length ≤ 62 := by
        rw [← hcl, List.length_append, List.length_map, List.length_take]
        by_cases hb1 : b = true
        · rw [if_pos hb1]; simp; omega
        · rw [if_neg hb1]
          have : ns.length ≠ 0 := fun z => hb1 (hl0.mp z)
          simp; omega
      generalize hHC : upd (upd (upd H2 p1 (.lst [.int 0])) p2 (.lst (((if b = true then [0] else []) : List Int).map V.int))) C (.lst (cells.map V.int)) = HC
      have eC : HC C = some (.lst (cells.map V.int)) := by rw [← hHC]; exact upd_same
      have s0C : Same H HC := by rw [← hHC]; exact ((s02.trans (sameNew n1)).trans (sameNew n2)).trans (sameNew nC)
      refine ⟨.ref C, rfl, .ref C, rfl, C, rfl, ⟨_, SqL.of eC⟩, fun R nR => lc_list (xs := cells.map V.int)
        (fun j H3 => Same HC H3 ∧ H3 R = some (.lst (((cells.map restI).take j).map V.int))) ⟨sameNew nR, upd_same⟩ (fun j H3 _ h3 => SqL.of (h3.1 _ _ eC)) ?_ ?_⟩
      · rintro j x H3 hx ⟨s3, e3⟩
        rw [List.getElem?_map] at hx
        obtain ⟨z, hz, rfl⟩ := Option.map_eq_some_iff.mp hx
        refine ⟨rfl, .int z, rfl, .int z, rfl, _, _, rfl, rfl, ⟨by decide, by decide, by decide⟩, _, _, rfl, rfl, .inr ⟨_, rfl, _, _, rfl, rfl, .inr ⟨by split <;> decide, by split <;> decide⟩, _, e3, ?_, samePut s3 nR, ?_⟩⟩
        · rw [List.length_map, List.length_take, List.length_map]; exact small (by omega)
        · rw [upd_same, List.take_add_one, List.getElem?_map, hz]; simp [restI]
      · rintro H3 ⟨s3, e3⟩
        rw [List.length_map, List.take_of_length_le (by rw [List.length_map]; exact Nat.le_refl _)] at e3
        refine ⟨(show (3 : Nat) ≤ sizeLine by decide), fun st nst => q _ st C R ((s0C.trans s3).trans (sameNew nst)) ⟨upd_same, ⟨cells, cells.map restI, upNew nst (s3 _ _ eC), upNew nst e3, by rw [List.length_map], hcl0.1, by omega, ?_⟩, ne_of_none eC nR, ?_, ?_⟩⟩
        · intro x hx
          obtain ⟨c, hc, rfl⟩ := List.mem_map.mp hx
          exact restI_nn (hnn c hc)
        · exact (ne_of_none (s3 _ _ eC) nst).symm
        · exact (ne_of_none e3 nst).symm
def spOne (K : PySem.W.Frag) : Sp := fun vs H Q _ => ∃ (st c r l : Addr) (t : Nat) (xs : List V), vs = [.ref st, .ref l] ∧ DS H st c r t ∧ t < 1000000 ∧ H l = some (.lst xs) ∧ l ≠ st ∧ l ≠ r ∧ 0 < xs.length ∧ xs.length ≤ 1000 ∧
  ∀ (H' : Hp) (j : Nat) (x : V), xs[j]? = some x → DS H' st c r (t + 1) → Ext st r H H' → Q x H'
theorem ok_one {f fD : Addr} {fd fdD : FuncData} {k : Nat} (F : Fun K "_law_one" "_law_one" sOne f fd)
    (FD : Fun K "_law_next" "_law_next" sDraw fD fdD) (bD : Binds K fdD ["_law_deck_here", "_law_many"] []) (gD : mg "_law_next" = some (.ref fD)) (GD : FnOk P w K mg base CX0 1 fD fdD ["_law_deck_here", "_law_many"] spDraw)
    (ml : mg "len" = none) : FnOk P w K mg base CX0 (1 + k + 1) f fd ["_law_deck_here", "_law_items"] (spOne K) := by
  refine F.ok scOne (fun vs H Q E h => ?_) (fun cdv A outer s H vs Q E hr h => ?_)
  · obtain ⟨st, c, r, l, t, xs, rfl, _⟩ := h; rfl
  · obtain ⟨st, c, r, l, t, xs, rfl, hd, ht, hl, n1, n2, hp, hz, q⟩ := h
    refine ⟨_, pss_one (ps_ret (pe_ix ix_list (pv 1) (pe_call GD (hr.mono (by omega)) (by rfl) gD FD.kp bD .nil pass0 (pa_cons (pv 0) (pa_cons (pe_callB call_len_seq (by rfl) ml PySem.boot_len (pa_cons (pv 1) pa_nil)) pa_nil))) (fun _ _ => rfl))), ?_⟩
    refine ⟨.ref l, rfl, .ref st, rfl, .ref l, rfl, l, _, rfl, .inl (SqL.of hl), st, c, r, t, _, rfl, hd, ht, by omega, by omega, fun H1 d h0 h1 D1 X1 => ?_⟩
    have hj : d.toNat < xs.length := by omega
    have e : xs[d.toNat]? = some xs[d.toNat] := List.getElem?_eq_getElem hj
    refine ⟨l, xs, d, xs[d.toNat], rfl, rfl, SqL.of (X1 _ _ hl n1 n2), ?_, q _ _ _ e D1 X1⟩
    have := atI_nat e
    rwa [Int.toNat_of_nonneg h0] at this
end
end Pv

namespace Pv
open PySem PySem.Spec PyProof.Rows L2
abbrev sMix : Stmt := topS 14
abbrev sAmo : Stmt := topS 15
theorem scMix : FnScope ["_law_deck_here", "_law_items", "_law_left", "_law_found"] ["_law_deck_here", "_law_items"] (defScope sMix) := ⟨rfl, rfl, rfl, by decide +kernel, rfl, by decide +kernel, by decide +kernel⟩
theorem scAmo : FnScope ["_law_deck_here", "_law_far", "_law_near"] ["_law_deck_here", "_law_far"] (defScope sAmo) := ⟨rfl, rfl, rfl, by decide +kernel, rfl, by decide +kernel, by decide +kernel⟩
theorem lay_ints : ∀ ns : List Int, PyData.canLayAll0 (ns.map PyData.int) = true
  | [] => by simp [PyData.canLayAll0]
  | n :: ns => by simp [PyData.canLayAll0, PyData.canLay0, lay_ints ns]
theorem dep_ints : ∀ ns : List Int, PyData.depthAll (ns.map PyData.int) = 0
  | [] => by simp [PyData.depthAll]
  | n :: ns => by simp [PyData.depthAll, PyData.depth, dep_ints ns]
theorem shaped_ints (ns : List Int) : SeqAt.shaped (.list (ns.map PyData.int)) = true := by
  show (PyData.canLay0 (.list (ns.map PyData.int)) && decide (PyData.depth (.list (ns.map PyData.int)) ≤ 64)) = true
  rw [Bool.and_eq_true]
  refine ⟨by simp only [PyData.canLay0]; exact lay_ints ns, decide_eq_true ?_⟩
  simp only [PyData.depth, dep_ints]; omega
theorem eqv_empty (ds : List PyData) : PyData.eqv (.list ds) (.list []) = ds.isEmpty := by
  cases ds <;> simp [PyData.eqv, PyData.eqvAll]
section
variable {P : Program} {w : World} {K : PySem.W.Frag} {mg : Str → Option Value} {base : Heap}
theorem perm_erase : ∀ (l : List Int) (k : Nat) (h : k < l.length), (l[k] :: l.eraseIdx k).Perm l
  | [], _, h => by simp at h
  | a :: l, 0, _ => by simp
  | a :: l, k + 1, h => by
    have ih := perm_erase l k (by simpa using h)
    simp only [List.getElem_cons_succ, List.eraseIdx_cons_succ]
    exact (List.Perm.swap _ _ _).trans (List.Perm.cons _ ih)
theorem nodup_step {ms l : List Int} {k : Nat} (h : k < l.length) (hn : (ms ++ l).Nodup) : ((ms ++ [l[k]]) ++ l.eraseIdx k).Nodup := by
  rw [List.append_assoc]
  exact (List.Perm.append_left ms (perm_erase l k h)).symm.nodup hn
def spMix (K : PySem.W.Frag) : Sp := fun vs H Q _ => ∃ (st c r l : Addr) (t : Nat) (ns : List Int), vs = [.ref st, .ref l] ∧ DS H st c r t ∧ t + 50 ≤ 1000000 ∧ H l = some (.lst (ns.map V.int)) ∧ ns.length ≤ 50 ∧
  ∀ (H' : Hp) (p : Addr) (ms : List Int), (∀ x ∈ ms, x ∈ ns) → (ns.Nodup → ms.Nodup) → ms.length = ns.length → H' p = some (.lst (ms.map V.int)) → p ≠ st → p ≠ c → p ≠ r → DS H' st c r (t + ns.length) → Ext st r H H' → Q (.ref p) H'
set_option maxHeartbeats 2000000 in
theorem ok_mix {f fD : Addr} {fd fdD : FuncData} {k : Nat} (F : Fun K "_law_mixed" "_law_mixed" sMix f fd)
    (FD : Fun K "_law_next" "_law_next" sDraw fD fdD) (bD : Binds K fdD ["_law_deck_here", "_law_many"] []) (gD : mg "_law_next" = some (.ref fD)) (GD : FnOk P w K mg base CX0 1 fD fdD ["_law_deck_here", "_law_many"] spDraw)
    (mli : mg "list" = none) (ml : mg "len" = none) : FnOk P w K mg base CX0 (1 + k + 1) f fd ["_law_deck_here", "_law_items"] (spMix K) := by
  refine F.ok scMix (fun vs H Q E h => ?_) (fun cdv A outer s H vs Q E hr h => ?_)
  · obtain ⟨st, c, r, l, t, ns, rfl, _⟩ := h; rfl
  · obtain ⟨st, c, r, l, t, ns, rfl, hd, ht, hl, hn, q⟩ := h
    have hu64 : (A.deeper (envOfC "_law_mixed" (defScope sMix) s.heap.objs.size f cdv)).units + 64 < cLine := by have := hr.un; omega
    refine ⟨_, pss_cons (ps_par (i := 2) (j := 3) rfl scMix.nd rfl rfl (by decide) rfl rfl (pa_cons (pe_callTy call_list_of (by rfl) mli (by decide +kernel) (pa_cons (pv 1) pa_nil)) (pa_cons (pe_lst pa_nil) pa_nil)) rfl)
      (pss_cons (ps_while PassesOwn.never (pt_cmpR (op_neD hu64) (pv 2) (pe_lst pa_nil) (nomark _))
        (pss_one (ps_expr (pe_bm PySem.F.plainAttrs_list PySem.F.slot_list_append PySem.F.type_list_append mt_append (pv 3) (pa_cons
          (pe_bm PySem.F.plainAttrs_list PySem.F.slot_list_pop PySem.F.type_list_pop mt_popAt (pv 2) (pa_cons (pe_call GD (hr.mono (by omega)) (by rfl) gD FD.kp bD .nil pass0 (pa_cons (pv 0) (pa_cons (pe_callB call_len_seq (by rfl) ml PySem.boot_len (pa_cons (pv 2) pa_nil)) pa_nil))) pa_nil)) pa_nil)))))
      (pss_one (ps_ret (pv 3)))), ?_⟩
    refine ⟨.ref l, rfl, l, _, rfl, .inl (SqL.of hl), fun Le nLe => ⟨Nat.zero_le _, fun Fo nFo => ⟨_, _, rfl, ?_⟩⟩⟩
    have oLe := hd.off nLe
    have d1 := hd.new nLe (o := .lst (ns.map V.int))
    have oFo := d1.off nFo
    have fFo : H Fo = none := freeOf nFo
    have nLF : Le ≠ Fo := ne_of_none upd_same nFo
    refine ⟨fun m σ H2 => ∃ (ls ms : List Int) (t2 : Nat), σ = [some (.ref st), some (.ref l), some (.ref Le), some (.ref Fo)] ∧ ls.length = m ∧ DS H2 st c r t2 ∧ t2 = t + ms.length ∧ Ext st r H H2 ∧
        H2 Le = some (.lst (ls.map V.int)) ∧ H2 Fo = some (.lst (ms.map V.int)) ∧ ls.length + ms.length = ns.length ∧ (∀ x ∈ ls, x ∈ ns) ∧ (∀ x ∈ ms, x ∈ ns) ∧ (ns.Nodup → (ms ++ ls).Nodup),
      ⟨ns.length, ns, [], t, rfl, rfl, d1.new nFo, rfl, (Ext.of (sameNew nLe)).trans (Ext.of (sameNew nFo)), upNew nFo upd_same, upd_same, rfl, fun x h => h, fun x h => by simp at h, fun h => by simpa using h⟩, ?_⟩
    rintro m σ H2 ⟨ls, ms, t2, rfl, rfl, d2, ht2, x2, eL, eF, hlen, bl, bm, bn⟩
    refine ⟨.ref Le, rfl, Nat.zero_le _, fun p np => ⟨.list (ls.map PyData.int), .list [], .lst (SqL.of (upNew np eL)) (dp_ints ls), .lst (SqL.of upd_same) .nil, shaped_ints ls, by decide, _, rfl, ?_⟩⟩
    rw [eqv_empty]
    have oN := d2.off np
    have eL2 := upNew np (o := .lst []) eL
    have eF2 := upNew np (o := .lst []) eF
    cases ls with
    | nil =>
      have hml : ms.length = ns.length := by simpa using hlen
      have dz : DS (upd H2 p (.lst [])) st c r (t + ns.length) := by rw [← hml, ← ht2]; exact d2.new np
      exact ⟨.ref Fo, rfl, q _ Fo ms bm (fun z => by simpa using bn z) hml eF2 oFo.1 oFo.2.1 oFo.2.2 dz (x2.trans (Ext.of (sameNew np)))⟩
    | cons a ls' =>
      have hpos : 0 < (a :: ls').length := by simp
      refine ⟨fun σ' H' => ∃ (ls2 ms2 : List Int) (t2 : Nat), σ' = [some (.ref st), some (.ref l), some (.ref Le), some (.ref Fo)] ∧ ls2.length = ls'.length ∧ DS H' st c r t2 ∧ t2 = t + ms2.length ∧ Ext st r H H' ∧
        H' Le = some (.lst (ls2.map V.int)) ∧ H' Fo = some (.lst (ms2.map V.int)) ∧ ls2.length + ms2.length = ns.length ∧ (∀ x ∈ ls2, x ∈ ns) ∧ (∀ x ∈ ms2, x ∈ ns) ∧ (ns.Nodup → (ms2 ++ ls2).Nodup), ?_, ?_⟩
      · rintro σ' H' ⟨ls2, ms2, t3, e1, e2, r3⟩
        exact ⟨ls'.length, by simp, ls2, ms2, t3, e1, e2, r3⟩
      · refine ⟨.ref Fo, rfl, .inl ⟨rfl, _, SqL.of eF2⟩, .ref Le, rfl, .inl ⟨rfl, _, SqL.of eL2⟩, .ref st, rfl, .ref Le, rfl, Le, _, rfl, .inl (SqL.of eL2), st, c, r, t2, _, rfl, d2.new np, by omega, by rw [List.length_map]; omega, by rw [List.length_map]; omega, fun H3 d h0 h1 D3 X3 => ?_⟩
        have eL3 := X3 _ _ eL2 oLe.1 oLe.2.2
        have eF3 := X3 _ _ eF2 oFo.1 oFo.2.2
        rw [List.length_map] at h1
        have hk : d.toNat < (a :: ls').length := by omega
        have eF4 : (upd H3 Le (.lst (((a :: ls').map V.int).eraseIdx d.toNat))) Fo = some (.lst (ms.map V.int)) := by rw [upd_ne nLF.symm]; exact eF3
        refine ⟨Le, _, d, d.toNat, .int (a :: ls')[d.toNat], rfl, rfl, eL3, by omega, by simp at hlen h1; omega, seqIndex_of h0 (by rw [List.length_map]; exact h1), by rw [List.getElem?_map, List.getElem?_eq_getElem hk]; rfl, Fo, _, _, rfl, rfl, eF4, ?_, ?_⟩
        · rw [List.length_map]; exact small (by simp at hlen; omega)
        refine ⟨(a :: ls').eraseIdx d.toNat, ms ++ [(a :: ls')[d.toNat]], t2 + 1, rfl, ?_, (D3.put oLe.1 oLe.2.1 oLe.2.2).put oFo.1 oFo.2.1 oFo.2.2, by simp; omega, ExtPut (ExtPut ((x2.trans (Ext.of (sameNew np))).trans X3) nLe) fFo, ?_, ?_, ?_, ?_, ?_, fun z => nodup_step hk (bn z)⟩
        · rw [List.length_eraseIdx_of_lt hk]; simp
        · rw [upd_ne nLF, upd_same, erase_map]
        · rw [upd_same, List.map_append]; rfl
        · rw [List.length_eraseIdx_of_lt hk]; simp at hlen ⊢; omega
        · exact fun x hx => bl x (List.mem_of_mem_eraseIdx hx)
        · intro x hx
          rw [List.mem_append] at hx
          rcases hx with h | h
          · exact bm x h
          · simp only [List.mem_singleton] at h; rw [h]; exact bl _ (List.getElem_mem hk)
def spAmo (K : PySem.W.Frag) : Sp := fun vs H Q _ => ∃ (st c r : Addr) (t : Nat) (far : Int), vs = [.ref st, .int far] ∧ DS H st c r t ∧ t + 10 ≤ 1000000 ∧
  ∀ (H' : Hp) (d : Int) (t' : Nat), 1 ≤ d → d ≤ 10 ^ 12 → DS H' st c r t' → t' ≤ t + 5 → Ext st r H H' → Q (.int d) H'
set_option maxHeartbeats 2000000 in
theorem ok_amo {f fD fO : Addr} {fd fdD fdO : FuncData} {k : Nat} (F : Fun K "_law_amount" "_law_amount" sAmo f fd)
    (FD : Fun K "_law_next" "_law_next" sDraw fD fdD) (bD : Binds K fdD ["_law_deck_here", "_law_many"] []) (gD : mg "_law_next" = some (.ref fD)) (GD : FnOk P w K mg base CX0 1 fD fdD ["_law_deck_here", "_law_many"] spDraw)
    (FO : Fun K "_law_one" "_law_one" sOne fO fdO) (bO : Binds K fdO ["_law_deck_here", "_law_items"] []) (gO : mg "_law_one" = some (.ref fO)) (GO : FnOk P w K mg base CX0 2 fO fdO ["_law_deck_here", "_law_items"] (spOne K)) :
    FnOk P w K mg base CX0 (2 + k + 1) f fd ["_law_deck_here", "_law_far"] (spAmo K) := by
  refine F.ok scAmo (fun vs H Q E h => ?_) (fun cdv A outer s H vs Q E hr h => ?_)
  · obtain ⟨st, c, r, t, far, rfl, _⟩ := h; rfl
  · obtain ⟨st, c, r, t, far, rfl, hd, ht, q⟩ := h
    refine ⟨_, pss_cons (ps_if (pt_cmpR op_eq (pv 1) pe_int (nomark _)) (pss_one (ps_ret (pe_op op_add pe_int (pe_call GD (hr.mono (by omega)) (by rfl) gD FD.kp bD .nil pass0 (pa_cons (pv 0) (pa_cons
          (pe_call GO (hr.mono (by omega)) (by rfl) gO FO.kp bO .nil pass0 (pa_cons (pv 0) (pa_cons (pe_lst (pa_cons pe_int (pa_cons pe_int (pa_cons pe_int pa_nil)))) pa_nil))) pa_nil)))))) pss_nil)
      (pss_cons (ps_set (i := 2) scAmo.nd rfl (.inl rfl) (pe_op op_sub (pe_op op_pow pe_int pe_int) (pe_call GD (hr.mono (by omega)) (by rfl) gD FD.kp bD .nil pass0 (pa_cons (pv 0) (pa_cons pe_int pa_nil)))))
      (pss_one (ps_ret (pe_call GO (hr.mono (by omega)) (by rfl) gO FO.kp bO .nil pass0 (pa_cons (pv 0) (pa_cons (pe_lst (pa_cons (pe_op op_add pe_int (pe_call GD (hr.mono (by omega)) (by rfl) gD FD.kp bD .nil pass0 (pa_cons (pv 0) (pa_cons pe_int pa_nil))))
        (pa_cons (pe_op op_pow pe_int pe_int) (pa_cons (pv 2) (pa_cons (pe_op op_add pe_int (pe_call GD (hr.mono (by omega)) (by rfl) gD FD.kp bD .nil pass0 (pa_cons (pv 0) (pa_cons (pe_op op_pow pe_int pe_int) pa_nil)))) pa_nil))))) pa_nil)))))), ?_⟩
    refine ⟨.int far, rfl, rfl, _, rfl, ite2 (fun h1 => ?_) (fun h1 => ?_)⟩
    · refine ⟨.ref st, rfl, .ref st, rfl, (show (3 : Nat) ≤ sizeLine by decide), fun L nL => ⟨st, c, r, L, t, _, rfl, hd.new nL, by omega, upd_same, (hd.off nL).1, (hd.off nL).2.2, by decide, by decide, fun H1 j x hx D1 X1 => ?_⟩⟩
      obtain ⟨m, rfl, hm1, hm2⟩ : ∃ m : Int, x = .int m ∧ 1 ≤ m ∧ m ≤ 9 := by
        match j, hx with
        | 0, hx => cases hx; exact ⟨2, rfl, by decide, by decide⟩
        | 1, hx => cases hx; exact ⟨3, rfl, by decide, by decide⟩
        | 2, hx => cases hx; exact ⟨9, rfl, by decide, by decide⟩
        | n + 3, hx => simp at hx
      refine ⟨st, c, r, t + 1, m, rfl, D1, by omega, by omega, by omega, fun H2 d h0 h2 D2 X2 => ⟨_, _, rfl, rfl, ?_⟩⟩
      exact q _ _ (t + 2) (by omega) (by omega) D2 (by omega) (((Ext.of (sameNew nL)).trans X1).trans X2)
    · refine ⟨_, _, rfl, rfl, ⟨by decide, by decide, by decide⟩, .ref st, rfl, st, c, r, t, _, rfl, hd, by omega, by decide, by decide, fun H1 d1 h10 h11 D1 X1 => ⟨_, _, rfl, rfl, ?_⟩⟩
      refine ⟨.ref st, rfl, .ref st, rfl, st, c, r, t + 1, _, rfl, D1, by omega, by decide, by decide, fun H2 d2 h20 h21 D2 X2 => ⟨_, _, rfl, rfl, ?_⟩⟩
      refine ⟨_, _, rfl, rfl, ⟨by decide, by decide, by decide⟩, _, rfl, .ref st, rfl, _, _, rfl, rfl, ⟨by decide, by decide, by decide⟩, st, c, r, t + 2, _, rfl, D2, by omega, by decide, by decide, fun H3 d3 h30 h31 D3 X3 => ⟨_, _, rfl, rfl, ?_⟩⟩
      refine ⟨(show (4 : Nat) ≤ sizeLine by decide), fun L nL => ⟨st, c, r, L, t + 3, _, rfl, D3.new nL, by omega, upd_same, (D3.off nL).1, (D3.off nL).2.2, (show (0 : Nat) < 4 by decide), (show (4 : Nat) ≤ 1000 by decide), fun H4 j x hx D4 X4 => ?_⟩⟩
      have XX : Ext st r H H4 := (((X1.trans X2).trans X3).trans (Ext.of (sameNew nL))).trans X4
      have t12 : (10 : Int) ^ (12 : Int).toNat = 1000000000000 := by decide
      match j, hx with
      | 0, hx => cases hx; exact q _ _ (t + 4) (by omega) (by omega) D4 (by omega) XX
      | 1, hx => cases hx; exact q _ _ (t + 4) (by decide) (by decide) D4 (by omega) XX
      | 2, hx => cases hx; exact q _ _ (t + 4) (by rw [t12]; omega) (by rw [t12]; omega) D4 (by omega) XX
      | 3, hx => cases hx; rw [t12] at h31; exact q _ _ (t + 4) (by omega) (by omega) D4 (by omega) XX
      | n + 4, hx => simp at hx
end
end Pv

namespace Pv
open PySem PySem.Spec PyProof.Rows L2
abbrev sInst : Stmt := topS 16
theorem scInst : FnScope ["_law_deck_here", "_law_posts", "_law_groups", "_law_far", "_law_many", "_law_rows", "_law_k", "_law_wish", "_law_sizes", "_law_post", "_law_near", "_law_count"] ["_law_deck_here", "_law_posts", "_law_groups", "_law_far"] (defScope sInst) := ⟨rfl, rfl, rfl, by decide +kernel, rfl, by decide +kernel, by decide +kernel⟩
theorem upTo_nodup (n : Nat) : (upTo n).Nodup := by
  unfold upTo
  show List.Pairwise _ _
  rw [List.pairwise_map]
  exact List.Pairwise.imp (fun h hab => h (Int.ofNat.inj hab)) (List.nodup_range (n := n))
theorem lay_grps : ∀ gs : List Gp, PyData.canLayAll0 (gs.map dGrp) = true ∧ PyData.depthAll (gs.map dGrp) ≤ 2
  | [] => by simp [PyData.canLayAll0, PyData.depthAll]
  | g :: gs => by
    obtain ⟨h1, h2⟩ := lay_grps gs
    have l := lay_ints g.1
    have d := dep_ints g.1
    constructor
    · simp [PyData.canLayAll0, PyData.canLay0, dGrp, dI, l, h1]
    · simp only [List.map_cons, PyData.depthAll, PyData.depth, dGrp, dI, d]
      omega
theorem shaped_grps (gs : List Gp) : SeqAt.shaped (.list (gs.map dGrp)) = true := by
  obtain ⟨h1, h2⟩ := lay_grps gs
  show (PyData.canLay0 (.list (gs.map dGrp)) && decide (PyData.depth (.list (gs.map dGrp)) ≤ 64)) = true
  rw [Bool.and_eq_true]
  refine ⟨by simp only [PyData.canLay0]; exact h1, decide_eq_true ?_⟩
  simp only [PyData.depth]; omega
theorem shaped_dI (ns : List Int) : SeqAt.shaped (dI ns) = true := by
  show (PyData.canLay0 (dI ns) && decide (PyData.depth (dI ns) ≤ 64)) = true
  rw [Bool.and_eq_true]
  refine ⟨by simp only [dI, PyData.canLay0]; exact lay_ints ns, decide_eq_true ?_⟩
  simp only [dI, PyData.depth, dep_ints]; omega
theorem eqv_ints : ∀ a b : List Int, PyData.eqv (dI a) (dI b) = decide (a = b)
  | [], [] => by simp [dI, PyData.eqv, PyData.eqvAll]
  | [], y :: b => by simp [dI, PyData.eqv, PyData.eqvAll]
  | x :: a, [] => by simp [dI, PyData.eqv, PyData.eqvAll]
  | x :: a, y :: b => by
    have ih := eqv_ints a b
    simp only [dI, PyData.eqv] at ih
    simp only [dI, PyData.eqv, List.map_cons, PyData.eqvAll, ih]
    by_cases h1 : x = y
    · subst h1; simp
    · simp [h1]
section
variable {P : Program} {w : World} {K : PySem.W.Frag} {mg : Str → Option Value} {base : Heap}
/-- wish[:1] == (post,): the list's first -/
theorem first_eq {H : Hp} {a : Addr} {ps : List Int} (hP : SqT K H a (ps.map V.int)) {Q : VK} (h : ∀ (H' : Hp) (b : Addr), Same H H' → SqT K H' b ((ps.take 1).map V.int) → Q (.ref b) H') : rSlA K (.ref a) none (some 1) H Q := by
  have hcut : cutV (ps.map V.int) none (some 1) = (ps.take 1).map V.int := by rw [List.map_take]; exact cut_to _ 1
  refine ⟨a, _, rfl, hP, fun hw => ?_, fun _ p np => ?_⟩
  · refine h H a (Same.refl _) ?_
    have e : (ps.take 1).map V.int = ps.map V.int := by
      rw [← hcut]
      unfold cutV
      rw [hw.1, hw.2, List.drop_zero, Nat.sub_zero, List.take_length]
    rw [e]; exact hP
  · refine h _ p (sameNew np) (SqT.of ?_)
    rw [upd_same, hcut]
def spInst (K : PySem.W.Frag) : Sp := fun vs H Q _ => ∃ (st c r : Addr) (t : Nat) (pm gm far : Int), vs = [.ref st, .int pm, .int gm, .int far] ∧ DS H st c r t ∧ t + 500 ≤ 1000000 ∧ (1 ≤ pm ∧ pm ≤ 6) ∧ 1 ≤ gm ∧ gm ≤ 10 ∧
  ∀ (H' : Hp) (p : Addr) (t' : Nat) (cs : List Int) (gs : List Gp), DS H' st c r t' → t' ≤ t + 500 → Ext st r H H' → Dp K H' (.ref p) (dInst cs gs) → InsOk cs gs → (∀ g ∈ gs, g.1.Nodup) → Q (.ref p) H'
set_option maxHeartbeats 8000000 in
theorem ok_inst {f fD fO fM fA : Addr} {fd fdD fdO fdM fdA : FuncData} {k : Nat} (F : Fun K "_law_instance" "_law_instance" sInst f fd)
    (FD : Fun K "_law_next" "_law_next" sDraw fD fdD) (bD : Binds K fdD ["_law_deck_here", "_law_many"] []) (gD : mg "_law_next" = some (.ref fD)) (GD : FnOk P w K mg base CX0 1 fD fdD ["_law_deck_here", "_law_many"] spDraw)
    (FO : Fun K "_law_one" "_law_one" sOne fO fdO) (bO : Binds K fdO ["_law_deck_here", "_law_items"] []) (gO : mg "_law_one" = some (.ref fO)) (GO : FnOk P w K mg base CX0 2 fO fdO ["_law_deck_here", "_law_items"] (spOne K))
    (FM : Fun K "_law_mixed" "_law_mixed" sMix fM fdM) (bM : Binds K fdM ["_law_deck_here", "_law_items"] []) (gM : mg "_law_mixed" = some (.ref fM)) (GM : FnOk P w K mg base CX0 2 fM fdM ["_law_deck_here", "_law_items"] (spMix K))
    (FA : Fun K "_law_amount" "_law_amount" sAmo fA fdA) (bA : Binds K fdA ["_law_deck_here", "_law_far"] []) (gA : mg "_law_amount" = some (.ref fA)) (GA : FnOk P w K mg base CX0 3 fA fdA ["_law_deck_here", "_law_far"] (spAmo K))
    (mt : mg "tuple" = none) (mr : mg "range" = none) (mli : mg "list" = none) (ms : mg "sum" = none) (mmx : mg "max" = none) (mmn : mg "min" = none) :
    FnOk P w K mg base CX0 (3 + k + 1) f fd ["_law_deck_here", "_law_posts", "_law_groups", "_law_far"] (spInst K) := by
  refine F.ok scInst (fun vs H Q E h => ?_) (fun cdv A outer s H vs Q E hr h => ?_)
  · obtain ⟨st, c, r, t, pm, gm, m, rfl, _⟩ := h; rfl
  · obtain ⟨st, c, r, t, pm, gm, far, rfl, hd, ht, hpm, hgm1, hgm2, q⟩ := h
    have hu64 : (A.deeper (envOfC "_law_instance" (defScope sInst) s.heap.objs.size f cdv)).units + 64 < cLine := by have := hr.un; omega
    refine ⟨_, pss_cons (ps_set (i := 4) scInst.nd rfl (.inl rfl) (pe_op op_add pe_int (pe_call GD (hr.mono (by omega)) (by rfl) gD FD.kp bD .nil pass0 (pa_cons (pv 0) (pa_cons (pv 1) pa_nil)))))
      (pss_cons (ps_set (i := 5) scInst.nd rfl (.inl rfl) (pe_lst pa_nil))
      (pss_cons (ps_for PassesOwn.never rfl (pi_range1 (by rfl) mr (pa_cons (pe_op op_add pe_int (pe_call GD (hr.mono (by omega)) (by rfl) gD FD.kp bD .nil pass0 (pa_cons (pv 0) (pa_cons (pv 2) pa_nil)))) pa_nil)) (pg_name (i := 6) scInst.nd rfl (.inl rfl))
        (pss_cons (ps_set (i := 7) scInst.nd rfl (.inl rfl) (pe_slice sl_list (pe_call GM (hr.mono (by omega)) (by rfl) gM FM.kp bM .nil pass0 (pa_cons (pv 0) (pa_cons (pe_listRg rfl (by rfl) mli (prg_1 (by rfl) mr (pv 4))) pa_nil))) po_none
            (po_some (pe_call GD (hr.mono (by omega)) (by rfl) gD FD.kp bD .nil pass0 (pa_cons (pv 0) (pa_cons (pe_op op_add (pv 4) pe_int) pa_nil))))))
        (C8.pss_cut (ps_if (PW.pt (pw_and (pt_cmpR (op_neD hu64) (pv 5) (pe_lst pa_nil) (nomark _)) (pw_and1 (pt_cmpR op_eq (pe_call GD (hr.mono (by omega)) (by rfl) gD FD.kp bD .nil pass0 (pa_cons (pv 0) (pa_cons pe_int pa_nil))) pe_int (nomark _)))))
            (pss_one (ps_set (i := 7) scInst.nd rfl (.inl rfl) (pe_callTy call_list_of (by rfl) mli (by decide +kernel) (pa_cons (pe_ix ix_tup (pe_call GO (hr.mono (by omega)) (by rfl) gO FO.kp bO .nil pass0 (pa_cons (pv 0) (pa_cons (pv 5) pa_nil))) pe_int (fun _ _ => rfl)) pa_nil)))) pss_nil)
        (pss_one (ps_expr (pe_bm PySem.F.plainAttrs_list PySem.F.slot_list_append PySem.F.type_list_append mt_append (pv 5) (pa_cons (pe_tup (pa_cons (pe_callTy call_tuple_of (by rfl) mt (by decide +kernel) (pa_cons (pv 7) pa_nil))
          (pa_cons (pe_call GA (hr.mono (by omega)) (by rfl) gA FA.kp bA .nil pass0 (pa_cons (pv 0) (pa_cons (pv 3) pa_nil))) pa_nil))) pa_nil)))))))
      (pss_cons (ps_set (i := 8) scInst.nd rfl (.inl rfl) (pe_lst pa_nil))
      (pss_cons (ps_for PassesOwn.never rfl (pi_range1 (by rfl) mr (pa_cons (pv 4) pa_nil)) (pg_name (i := 9) scInst.nd rfl (.inr rfl))
        (pss_cons (ps_set (i := 10) scInst.nd rfl (.inl rfl) (pe_op op_sub (pe_op op_add (pe_callB (cr_sum rfl) (by rfl) ms (by decide +kernel) (pa_cons
            (pe_lc (own := [("_law_wish", 7), ("_law_count", 11)]) (g := gTup K 2 (gCons (gName 7) (gCons (gName 11) gNil))) (tt := tTest (tOp (rEqD K) (tSl (rSlA K) (tVar 7) tNoPart (tPart (tC (.int 1)))) (tTup (tCons (tVar 9) tNil)))) (te := tVar 11) rfl scInst.nd (pi_list (pv 5))
              (blkOk_by (N := ["_law_deck_here", "_law_posts", "_law_groups", "_law_far", "_law_many", "_law_rows", "_law_k", "_law_wish", "_law_sizes", "_law_post", "_law_near", "_law_count"]) (sc := defScope sInst) (by decide +kernel))
              (fun _ _ _ _ _ => pg_tup rfl (pgs_cons (pg_name (i := 7) scInst.nd rfl (.inl rfl)) (pgs_cons (pg_name (i := 11) scInst.nd rfl (.inl rfl)) pgs_nil)))
              (fun _ _ _ _ _ => pts_one (pt_cmpR (op_eqD hu64) (pe_slice sl_tupA (pv 7) po_none (po_some pe_int)) (pe_tup (pa_cons (pv 9) pa_nil)) (nomark _)))
              (fun _ _ _ _ _ => pv 11)) pa_nil))
            (pe_call GD (hr.mono (by omega)) (by rfl) gD FD.kp bD .nil pass0 (pa_cons (pv 0) (pa_cons pe_int pa_nil)))) pe_int))
        (pss_one (ps_expr (pe_bm PySem.F.plainAttrs_list PySem.F.slot_list_append PySem.F.type_list_append mt_append (pv 8) (pa_cons (pe_call GO (hr.mono (by omega)) (by rfl) gO FO.kp bO .nil pass0 (pa_cons (pv 0) (pa_cons
            (pe_lst (pa_cons (pe_call GA (hr.mono (by omega)) (by rfl) gA FA.kp bA .nil pass0 (pa_cons (pv 0) (pa_cons (pv 3) pa_nil))) (pa_cons (pe_callB (call_max2 rfl) (by rfl) mmx (by decide +kernel) (pa_cons pe_int (pa_cons
              (pe_callB (call_min2 rfl) (by rfl) mmn (by decide +kernel) (pa_cons (pe_op op_pow pe_int pe_int) (pa_cons (pv 10) pa_nil))) pa_nil))) pa_nil))) pa_nil))) pa_nil))))))
      (pss_one (ps_ret (pe_tup (pa_cons (pe_callTy call_tuple_of (by rfl) mt (by decide +kernel) (pa_cons (pv 8) pa_nil)) (pa_cons (pe_callTy call_tuple_of (by rfl) mt (by decide +kernel) (pa_cons (pv 5) pa_nil)) pa_nil))))))))), ?_⟩
    refine ⟨.ref st, rfl, .int pm, rfl, st, c, r, t, _, rfl, hd, by omega, by omega, by omega, fun H1 d1 h10 h11 D1 X1 => ⟨_, _, rfl, rfl, ?_⟩⟩
    obtain ⟨n, hn⟩ : ∃ n : Nat, 1 + d1 = (n : Int) := ⟨(1 + d1).toNat, by omega⟩
    have hn6 : 1 ≤ n ∧ n ≤ 6 := by omega
    dsimp only
    rw [hn]
    refine ⟨Nat.zero_le _, fun Rw nRw => ?_⟩
    have oRw := D1.off nRw
    have fRw := X1.nil D1 nRw
    have D1' := D1.new nRw (o := .lst [])
    refine ⟨.ref st, rfl, .int gm, rfl, st, c, r, t + 1, _, rfl, D1', by omega, by omega, by omega, fun H2 d2 h20 h21 D2 X2 => ⟨_, _, rfl, rfl, ?_⟩⟩
    refine ⟨1 + d2, rfl, by omega, by omega, for_it (walk_range (lo := 0) (n := (1 + d2).toNat))
      (fun i σ H4 => ∃ (y6 y7 : Option V) (t4 : Nat) (vs : List V) (gs : List Gp), σ = [some (.ref st), some (.int pm), some (.int gm), some (.int far), some (.int n), some (.ref Rw), y6, y7, none, none, none, none] ∧ DS H4 st c r t4 ∧ t4 ≤ t + 2 + 20 * i ∧ Ext st r H H4 ∧
        H4 Rw = some (.lst vs) ∧ DpAll K H4 vs (gs.map dGrp) ∧ gs.length = i ∧ ∀ g ∈ gs, g.1.length ≤ 6 ∧ (∀ p ∈ g.1, 0 ≤ p ∧ p < (n : Int)) ∧ (1 ≤ g.2 ∧ g.2 ≤ 10 ^ 12) ∧ g.1.Nodup)
      ⟨none, none, t + 2, [], [], rfl, D2, by omega, (X1.trans (Ext.of (sameNew nRw))).trans X2, X2 _ _ upd_same oRw.1 oRw.2.2, .nil, rfl, fun g h => by simp at h⟩ (fun _ _ _ _ _ => trivial) ?_ ?_⟩
    · rintro i v σ H4 H4' hlt ⟨y6, y7, t4, vs, gs, rfl, d4, ht4, x4, eR, hvs, lgs, bgs⟩ ⟨rfl, rfl⟩
      have hi10 : i < 10 := by omega
      have hvl : vs.length = i := by rw [DpAll.len hvs, List.length_map, lgs]
      -- wish
      refine ⟨.ref st, rfl, .int n, rfl, n, rfl, RgOk.of_le (by omega) (by omega) (by omega) (by omega), fun Lr nLr => ?_⟩
      refine ⟨st, c, r, Lr, t4, upTo n, rfl, d4.new nLr, by omega, by rw [upd_same, rgV_upTo], by rw [upTo_len]; omega, fun H5 p5 ms hms hmn hml e5 n1 n2 n3 D5 X5 => ?_⟩
      rw [upTo_len] at hml D5
      refine ⟨.ref st, rfl, .int n, rfl, _, _, rfl, rfl, st, c, r, t4 + n, _, rfl, D5, by omega, by omega, by omega, fun H6 d6 h60 h61 D6 X6 => ⟨d6, rfl, p5, _, rfl, SqL.of (X6 _ _ e5 n1 n3), fun W nW => ?_⟩⟩
      have tk45 : TupK H4' H6 := ((TupK.new nLr).trans (X5.tup (d4.new nLr))).trans (X6.tup D5)
      have x6 := ((x4.trans (Ext.of (sameNew nLr))).trans X5).trans X6
      have eR6 := X6 _ _ (X5 _ _ (upNew nLr eR) oRw.1 oRw.2.2) oRw.1 oRw.2.2
      obtain ⟨dn, rfl⟩ : ∃ dn : Nat, d6 = dn := ⟨d6.toNat, by omega⟩
      have hcut : cutV (ms.map V.int) none (some (dn : Int)) = (ms.take dn).map V.int := by rw [List.map_take]; exact cut_to _ dn
      -- the list perhaps of an earlier row
      refine ⟨fun σ' H' => ∃ (z6 : Option V) (Wa : Addr) (ws : List Int) (t7 : Nat), σ' = [some (.ref st), some (.int pm), some (.int gm), some (.int far), some (.int n), some (.ref Rw), z6, some (.ref Wa), none, none, none, none] ∧
        H' Wa = some (.lst (ws.map V.int)) ∧ ws.length ≤ 6 ∧ (∀ p ∈ ws, 0 ≤ p ∧ p < (n : Int)) ∧ ws.Nodup ∧ DS H' st c r t7 ∧ t7 ≤ t4 + 12 ∧ Ext st r H H' ∧ H' Rw = some (.lst vs) ∧ TupK H4' H', ?_, ?_⟩
      · refine ⟨.ref Rw, rfl, Nat.zero_le _, fun p np => ⟨.list (gs.map dGrp), .list [], .lst (SqL.of (upNew np (upNew nW eR6))) ((((tk45.trans (TupK.new nW)).trans (TupK.new np)).dpAll _ _ (to_grps _) hvs)), .lst (SqL.of upd_same) .nil, shaped_grps gs, by decide, _, rfl, ?_⟩⟩
        rw [eqv_empty]
        have eWp : (upd (upd H6 W (.lst (cutV (ms.map V.int) none (some (dn : Int))))) p (.lst [])) W = some (.lst ((ms.take dn).map V.int)) := upNew np (by rw [upd_same, hcut])
        have bW : ∀ x ∈ ms.take dn, 0 ≤ x ∧ x < (n : Int) := fun x hx => upTo_mem (hms x (List.mem_of_mem_take hx))
        have nW' : (ms.take dn).Nodup := (List.take_sublist dn ms).nodup (hmn (upTo_nodup n))
        have lW : (ms.take dn).length ≤ 6 := by rw [List.length_take]; omega
        have Dp' := (D6.new nW (o := .lst (cutV (ms.map V.int) none (some (dn : Int))))).new np (o := .lst [])
        have xp := (x6.trans (Ext.of (sameNew nW (o := .lst (cutV (ms.map V.int) none (some (dn : Int))))))).trans (Ext.of (sameNew np (o := .lst [])))
        have eRp := upNew np (o := .lst []) (upNew nW (o := .lst (cutV (ms.map V.int) none (some (dn : Int)))) eR6)
        have tkp := (tk45.trans (TupK.new nW (o := .lst (cutV (ms.map V.int) none (some (dn : Int)))))).trans (TupK.new np (o := .lst []))
        have oW := D6.off nW
        have hgse : gs = [] ∨ 0 < gs.length := by cases gs <;> simp
        rcases hgse with rfl | hpos
        · exact ⟨_, W, _, t4 + n + 1, rfl, eWp, lW, bW, nW', Dp', by omega, xp, eRp, tkp⟩
        · have he : (!(gs.map dGrp).isEmpty) = true := by cases gs <;> simp at hpos ⊢
          rw [he]
          refine iteT ?_
          refine ⟨.ref st, rfl, st, c, r, t4 + n + 1, _, rfl, Dp', by omega, by decide, by decide, fun H8 d8 h80 h81 D8 X8 => ⟨rfl, _, rfl, ite2 (fun h1 => ?_) (fun h1 => ?_)⟩⟩
          · have eR8 := X8 _ _ eRp oRw.1 oRw.2.2
            refine ⟨.ref st, rfl, .ref Rw, rfl, st, c, r, Rw, t4 + n + 1 + 1, vs, rfl, D8, by omega, eR8, oRw.1, oRw.2.2, by omega, by omega, fun H9 j x hx D9 X9 => ?_⟩
            obtain ⟨dd, hdd, hxd⟩ := DpAll.at hvs hx
            rw [List.getElem?_map] at hdd
            obtain ⟨g, hgi, rfl⟩ := Option.map_eq_some_iff.mp hdd
            have tk9 := (tkp.trans (X8.tup Dp')).trans (X9.tup D8)
            obtain ⟨gAd, pA, rfl, hG, hP⟩ := grp_ref (tk9.dp _ _ (to_dGrp g) hxd)
            have hb := bgs g (List.mem_of_getElem? hgi)
            refine ⟨gAd, _, 0, .ref pA, rfl, rfl, hG, atI_nat (j := 0) rfl, pA, _, rfl, .inr hP, fun W2 nW2 => ?_⟩
            exact ⟨_, W2, g.1, t4 + n + 1 + 1 + 1, rfl, upd_same, hb.1, hb.2.1, hb.2.2.2, D9.new nW2, by omega, ((xp.trans X8).trans X9).trans (Ext.of (sameNew nW2)), upNew nW2 (X9 _ _ eR8 oRw.1 oRw.2.2), tk9.trans (TupK.new nW2)⟩
          · exact ⟨_, W, _, t4 + n + 1 + 1, rfl, X8 _ _ eWp oW.1 oW.2.2, lW, bW, nW', D8, by omega, xp.trans X8, X8 _ _ eRp oRw.1 oRw.2.2, tkp.trans (X8.tup Dp')⟩
      · rintro σ' H7 ⟨z6, Wa, ws, t7, rfl, eW7, lW7, bW7, nW7, d7, ht7, x7, eR7, tk7⟩
        refine ⟨.ref Rw, rfl, .inl ⟨rfl, _, SqL.of eR7⟩, .ref Wa, rfl, Wa, _, rfl, .inl ⟨SqL.of eW7, fun Tp nTp => ?_⟩⟩
        refine ⟨.ref st, rfl, .int far, rfl, st, c, r, t7, far, rfl, d7.new nTp, by omega, fun H8 cnt t8 hc1 hc2 D8 ht8 X8 => ⟨(show (2 : Nat) ≤ sizeLine by decide), fun Gr nGr => ?_⟩⟩
        have eF8p := X8 _ _ (upNew nTp eR7) oRw.1 oRw.2.2
        have eF8 := upNew nGr (o := .tup [.ref Tp, .int cnt]) eF8p
        have tk8 := (TupK.new nTp).trans (X8.tup (d7.new nTp (o := .tup (ws.map V.int))))
        have sT : SqT K H8 Tp (ws.map V.int) := (X8.tup (d7.new nTp)).sq (SqT.of upd_same)
        have tkz : TupK H8 (upd (upd H8 Gr (.tup [.ref Tp, .int cnt])) Rw (.lst (vs ++ [.ref Gr]))) := (TupK.new nGr).trans (TupK.put eF8)
        refine ⟨Rw, vs, _, rfl, rfl, eF8, by rw [hvl]; exact small (by omega), _, _, t8, vs ++ [.ref Gr], gs ++ [(ws, cnt)], rfl, (D8.new nGr).put oRw.1 oRw.2.1 oRw.2.2, by omega, ExtPut (((x7.trans (Ext.of (sameNew nTp))).trans X8).trans (Ext.of (sameNew nGr))) fRw, upd_same, ?_, by simp [lgs], ?_⟩
        · rw [List.map_append]
          refine DpAll.snoc (((tk7.trans tk8).trans tkz).dpAll _ _ (to_grps _) hvs) (.tup (SqT.of ?_) (.cons (dI_sq (tkz.sq sT)) (.cons (.int _) .nil)))
          rw [upd_ne (ne_of_none eF8p nGr).symm]
          exact upd_same
        · intro g hg
          rw [List.mem_append] at hg
          rcases hg with h | h
          · exact bgs g h
          · simp only [List.mem_singleton] at h
            subst h
            exact ⟨lW7, bW7, ⟨hc1, hc2⟩, nW7⟩
    · rintro σ Hr ⟨y6, y7, t4, vs, gs, rfl, d4, ht4, x4, eR, hvs, lgs, bgs⟩
      have hvl : vs.length = gs.length := by rw [DpAll.len hvs, List.length_map]
      -- sizes = []
      refine ⟨Nat.zero_le _, fun Sz nSz => ?_⟩
      have oSz := d4.off nSz
      have fSz := x4.nil d4 nSz
      have nRS : Rw ≠ Sz := ne_of_none eR nSz
      refine ⟨.int n, rfl, n, rfl, by omega, by omega, for_it (walk_range (lo := 0) (n := (n : Int).toNat))
        (fun j σ H5 => ∃ (z6 z7 z9 z10 : Option V) (t5 : Nat) (ls : List Int), σ = [some (.ref st), some (.int pm), some (.int gm), some (.int far), some (.int n), some (.ref Rw), z6, z7, some (.ref Sz), z9, z10, none] ∧ DS H5 st c r t5 ∧ t5 ≤ t4 + 10 * j ∧ Ext st r H H5 ∧ TupK Hr H5 ∧
          H5 Rw = some (.lst vs) ∧ H5 Sz = some (.lst (ls.map V.int)) ∧ ls.length = j ∧ ∀ x ∈ ls, 1 ≤ x ∧ x ≤ 10 ^ 12)
        ⟨_, _, none, none, t4, [], rfl, d4.new nSz, by omega, x4.trans (Ext.of (sameNew nSz)), TupK.new nSz, upNew nSz eR, upd_same, rfl, fun x h => by simp at h⟩ (fun _ _ _ _ _ => trivial) ?_ ?_⟩
      · rintro j v σ H5 H5' hltj ⟨z6, z7, z9, z10, t5, ls, rfl, d5, ht5, x5, tk5, eR5, eS5, lS5, bS5⟩ ⟨rfl, rfl⟩
        have hj6 : j < 6 := by omega
        -- near
        refine ⟨.ref Rw, rfl, Rw, rfl, ⟨_, SqL.of eR5⟩, fun D nD => lc_it (walk_list (K := K) (a := Rw) (xs := vs))
          (fun m H6 => Same H5' H6 ∧ ∃ ks : List Int, H6 D = some (.lst (ks.map V.int)) ∧ ks.length ≤ m) ⟨sameNew nD, [], upd_same, Nat.le_refl _⟩ (fun m H6 _ h6 => SqL.of (h6.1 _ _ eR5)) ?_ ?_⟩
        · rintro m x H6 H6' hltm ⟨s6, ks, e6, l6⟩ ⟨rfl, hx⟩
          obtain ⟨dd, hdd, hxd⟩ := DpAll.at hvs hx
          rw [List.getElem?_map] at hdd
          obtain ⟨g, hgi, rfl⟩ := Option.map_eq_some_iff.mp hdd
          obtain ⟨gAd, pA, rfl, hG, hP⟩ := grp_ref ((tk5.trans (TupK.of s6)).dp _ _ (to_dGrp g) hxd)
          refine ⟨gAd, _, rfl, hG, rfl, _, _, rfl, _, _, rfl, rfl, rfl, .ref pA, rfl, 1, rfl, first_eq hP (fun H7 b s7 hb => ⟨_, rfl, (show (1 : Nat) ≤ sizeLine by decide), fun p2 n2 => ⟨dI (g.1.take 1), dI [(0 : Int) + (j : Nat)], dI_sq ((TupK.new n2).sq hb), dI_sq (SqT.of upd_same), shaped_dI _, shaped_dI _, _, rfl, ite2 (fun h1 => ?_) (fun h1 => ?_)⟩⟩)⟩
          · have e8 := upNew n2 (o := .tup [.int ((0 : Int) + (j : Nat))]) (s7 _ _ e6)
            refine ⟨_, rfl, _, e8, ?_, samePut ((s6.trans s7).trans (sameNew n2)) nD, ks ++ [g.2], ?_, by simp; omega⟩
            · rw [List.length_map]; exact small (by omega)
            · rw [upd_same, List.map_append]; rfl
          · exact ⟨(s6.trans s7).trans (sameNew n2), ks, upNew n2 (s7 _ _ e6), by omega⟩
        rintro H6 ⟨s6, ks, e6, l6⟩
        have d6 := d5.same s6
        refine ⟨D, ks, rfl, SqL.of e6, .ref st, rfl, st, c, r, t5, _, rfl, d6, by omega, by decide, by decide, fun H7 d7 h70 h71 D7 X7 => ⟨_, _, rfl, rfl, _, _, rfl, rfl, ?_⟩⟩
        have x7 := (x5.trans (Ext.of s6)).trans X7
        have eS7 := X7 _ _ (s6 _ _ eS5) oSz.1 oSz.2.2
        have eR7 := X7 _ _ (s6 _ _ eR5) oRw.1 oRw.2.2
        have tk7 := (tk5.trans (TupK.of s6)).trans (X7.tup d6)
        -- sizes.append(..)
        refine ⟨.ref Sz, rfl, .inl ⟨rfl, _, SqL.of eS7⟩, .ref st, rfl, .ref st, rfl, .int far, rfl, st, c, r, t5 + 1, far, rfl, D7, by omega, fun H8 am t8 ha1 ha2 D8 ht8 X8 => ?_⟩
        refine ⟨_, _, rfl, rfl, ⟨by decide, by decide, by decide⟩, _, rfl, _, _, rfl, _, _, rfl, (show (2 : Nat) ≤ sizeLine by decide), fun L nL => ?_⟩
        have oL := D8.off nL
        refine ⟨st, c, r, L, t8, _, rfl, D8.new nL, by omega, upd_same, oL.1, oL.2.2, (show (0 : Nat) < 2 by decide), (show (2 : Nat) ≤ 1000 by decide), fun H9 jj x hx D9 X9 => ?_⟩
        obtain ⟨xv, rfl, hx1, hx2⟩ : ∃ xv : Int, x = .int xv ∧ 1 ≤ xv ∧ xv ≤ 10 ^ 12 := by
          match jj, hx with
          | 0, hx => cases hx; exact ⟨am, rfl, ha1, ha2⟩
          | 1, hx =>
            cases hx
            have t12 : (10 : Int) ^ (12 : Int).toNat = 1000000000000 := by decide
            refine ⟨_, rfl, ?_, ?_⟩
            · split <;> omega
            · split
              · split <;> rw [t12] at * <;> omega
              · omega
          | n + 2, hx => simp at hx
        have eS9 := X9 _ _ (upNew nL (X8 _ _ eS7 oSz.1 oSz.2.2)) oSz.1 oSz.2.2
        have eR9 := X9 _ _ (upNew nL (X8 _ _ eR7 oRw.1 oRw.2.2)) oRw.1 oRw.2.2
        refine ⟨Sz, _, _, rfl, rfl, eS9, by rw [List.length_map]; exact small (by omega), _, _, _, _, t8 + 1, ls ++ [xv], rfl, D9.put oSz.1 oSz.2.1 oSz.2.2, by omega, ExtPut (((x7.trans X8).trans (Ext.of (sameNew nL))).trans X9) fSz, (((tk7.trans (X8.tup D7)).trans (TupK.new nL)).trans (X9.tup (D8.new nL))).trans (TupK.put eS9), by rw [upd_ne nRS]; exact eR9, ?_, by simp [lS5], ?_⟩
        · rw [upd_same, List.map_append]; rfl
        · intro y hy
          rw [List.mem_append] at hy
          rcases hy with h | h
          · exact bS5 y h
          · simp only [List.mem_singleton] at h; omega
      · rintro σ H5 ⟨z6, z7, z9, z10, t5, ls, rfl, d5, ht5, x5, tk5, eR5, eS5, lS5, bS5⟩
        refine ⟨.ref Sz, rfl, Sz, _, rfl, .inl ⟨SqL.of eS5, fun Ct nCt => ⟨.ref Rw, rfl, Rw, _, rfl, .inl ⟨SqL.of (upNew nCt eR5), fun Gt nGt => ⟨(show (2 : Nat) ≤ sizeLine by decide), fun In nIn => ?_⟩⟩⟩⟩⟩
        have tkz : TupK H5 (upd (upd (upd H5 Ct (.tup (ls.map V.int))) Gt (.tup vs)) In (.tup [.ref Ct, .ref Gt])) := ((TupK.new nCt).trans (TupK.new nGt)).trans (TupK.new nIn)
        have hl5 : ls.length = n := by omega
        refine q _ In t5 ls gs (((d5.new nCt).new nGt).new nIn) (by omega) (((x5.trans (Ext.of (sameNew nCt))).trans (Ext.of (sameNew nGt))).trans (Ext.of (sameNew nIn)))
          (.tup (SqT.of upd_same) (.cons (dI_sq (((TupK.new nGt).trans (TupK.new nIn)).sq (SqT.of upd_same))) (.cons (.tup (SqT.of (upNew nIn upd_same)) ((tk5.trans tkz).dpAll _ _ (to_grps _) hvs)) .nil))) ⟨by omega, by omega, bS5, by omega, by omega, ?_⟩ (fun g hg => (bgs g hg).2.2.2)
        rw [hl5]
        exact fun g hg => ⟨(bgs g hg).1, (bgs g hg).2.1, (bgs g hg).2.2.1.1, (bgs g hg).2.2.1.2⟩
end
end Pv

namespace Pv
open PySem PySem.Spec PyProof.Rows L2
abbrev sSame : Stmt := topS 13
theorem scSame : FnScope ["_law_found", "_law_due", "_law_k"] ["_law_found", "_law_due"] (defScope sSame) := ⟨rfl, rfl, rfl, by decide +kernel, rfl, by decide +kernel, by decide +kernel⟩
mutual
def plain : PyData → Bool
  | .none | .int _ | .bool _ | .str _ => true
  | .list xs | .tuple xs => decide (xs.length ≤ 1000) && plainAll xs
  | _ => false
def plainAll : List PyData → Bool
  | [] => true
  | x :: xs => plain x && plainAll xs
end
theorem plainAll_at : ∀ {xs : List PyData} {i : Nat} {d : PyData}, plainAll xs = true → xs[i]? = some d → plain d = true
  | [], _, _, _, e => by simp at e
  | x :: xs, 0, d, h, e => by simp [plainAll] at h e; subst e; exact h.1
  | x :: xs, i + 1, d, h, e => by simp [plainAll] at h e; exact plainAll_at h.2 e
theorem depthAll_at : ∀ {xs : List PyData} {i : Nat} {d : PyData}, xs[i]? = some d → d.depth ≤ PyData.depthAll xs
  | [], _, _, e => by simp at e
  | x :: xs, 0, d, e => by simp at e; subst e; simp only [PyData.depthAll]; omega
  | x :: xs, i + 1, d, e => by
    have := depthAll_at (xs := xs) (i := i) (d := d) (by simpa using e)
    simp only [PyData.depthAll]; omega
inductive SeqAs (K : PySem.W.Frag) (H : Hp) (a : Addr) (xs : List V) : String → Prop
  | l : SqL K H a xs → SeqAs K H a xs "list"
  | t : SqT K H a xs → SeqAs K H a xs "tuple"
section
variable {K : PySem.W.Frag} {H H' : Hp} {a : Addr} {xs : List V} {T : String}
theorem SeqAs.same (h : SeqAs K H a xs T) (s : Same H H') : SeqAs K H' a xs T := by
  cases h with
  | l h => exact .l (s.seq h)
  | t h => exact .t ((TupK.of s).sq h)
theorem SeqAs.ty (h : SeqAs K H a xs T) : TyX K H (.ref a) (.type T) := by
  cases h with
  | l h => exact ty_sqL h
  | t h => exact ty_sq h
theorem SeqAs.or (h : SeqAs K H a xs T) : SqL K H a xs ∨ SqT K H a xs := by
  cases h with
  | l h => exact .inl h
  | t h => exact .inr h
theorem SeqAs.ix (h : SeqAs K H a xs T) {j : Nat} {v : V} {Q : VK} (e : xs[j]? = some v) (q : Q v H) : rIx K (.ref a) (.int j) H Q := by
  cases h with
  | l h => exact .inl ⟨a, xs, _, v, rfl, rfl, h, atI_nat e, q⟩
  | t h => exact .inr (.inl ⟨a, xs, _, v, rfl, rfl, h, atI_nat e, q⟩)
theorem SeqAs.kit (h : SeqAs K H a xs T) (S : String) (hS : S = "list" ∨ S = "tuple") : PySem.W.kitOne K (.type T) (.type S) = some (T == S) := by
  cases h <;> rcases hS with rfl | rfl <;> exact kit_ty (by decide +kernel)
theorem SeqAs.kits (h : SeqAs K H a xs T) : PySem.W.kitAny K (.type T) [.type "list", .type "tuple"] = some true := by
  cases h with
  | l h => exact kitAny_cons (kit_ty (b := "list") (r := true) (by decide +kernel)) (fun z => by cases z) (fun _ => rfl)
  | t h => exact kitAny_cons (kit_ty (b := "list") (r := false) (by decide +kernel)) (fun _ => kitAny_cons (kit_ty (b := "tuple") (r := true) (by decide +kernel)) (fun z => by cases z) (fun _ => rfl)) (fun z => by cases z)
end
section
variable {P : Program} {w : World} {K : PySem.W.Frag} {mg : Str → Option Value} {base : Heap}
def spS (K : PySem.W.Frag) : Nat → Sp
  | 0 => fun _ _ _ _ => False
  | n + 1 => fun vs H Q _ => ∃ (x y : V) (d : PyData), vs = [x, y] ∧ Dp K H x d ∧ Dp K H y d ∧ plain d = true ∧ d.depth ≤ n ∧ ∀ H', Same H H' → Q (.bl true) H'
mutual
theorem same_dp {H H' : Hp} (s : Same H H') : ∀ {d : PyData} {v : V}, plain d = true → Dp K H v d → Dp K H' v d
  | .none, _, _, h => by cases h; exact .non
  | .int _, _, _, h => by cases h; exact .int _
  | .list xs, _, t, h => by
    simp only [plain, Bool.and_eq_true] at t
    cases h with
    | lst h1 h2 => exact .lst (s.seq h1) (same_dpAll s t.2 h2)
  | .tuple xs, _, t, h => by
    simp only [plain, Bool.and_eq_true] at t
    cases h with
    | tup h1 h2 => exact .tup ((TupK.of s).sq h1) (same_dpAll s t.2 h2)
  | .bool _, _, _, h => by cases h; exact .bl _
  | .str _, _, _, h => by cases h; exact .str _
  | .dict _, _, t, _ => by simp [plain] at t
theorem same_dpAll {H H' : Hp} (s : Same H H') : ∀ {ds : List PyData} {vs : List V}, plainAll ds = true → DpAll K H vs ds → DpAll K H' vs ds
  | [], _, _, h => by cases h; exact .nil
  | d :: ds, _, t, h => by
    simp only [plainAll, Bool.and_eq_true] at t
    cases h with
    | cons h1 h2 => exact .cons (same_dp s t.1 h1) (same_dpAll s t.2 h2)
end
theorem eqv_nil : PyData.eqv (.list []) (.list []) = true := by simp [PyData.eqv, PyData.eqvAll]
set_option maxHeartbeats 4000000 in
theorem ok_same {f : Addr} {fd : FuncData} (F : Fun K "_law_same" "_law_same" sSame f fd) (b : Binds K fd ["_law_found", "_law_due"] []) (g : mg "_law_same" = some (.ref f))
    (mi : mg "isinstance" = none) (mli : mg "list" = none) (mt : mg "tuple" = none) (ml : mg "len" = none) (mr : mg "range" = none) (mst : mg "str" = none) (mint : mg "int" = none) (mbo : mg "bool" = none) :
    ∀ n, FnOk P w K mg base CX0 n f fd ["_law_found", "_law_due"] (spS K n)
  | 0 => FnOk.none
  | n + 1 => by
    have G := ok_same F b g mi mli mt ml mr mst mint mbo n
    refine F.ok scSame (fun vs H Q E h => ?_) (fun cdv A outer s H vs Q E hr h => ?_)
    · obtain ⟨x, y, d, rfl, _⟩ := h; rfl
    · obtain ⟨x, y, d, rfl, hx, hy, hpl, hdp, q⟩ := h
      have hu64 : (A.deeper (envOfC "_law_same" (defScope sSame) s.heap.objs.size f cdv)).units + 64 < cLine := by have := hr.un; omega
      refine ⟨_, pss_cons (ps_if (pt_val (pe_callB call_isiT (by rfl) mi (by decide +kernel) (pa_cons (pv 1) (pa_cons (pe_tup (pa_cons (pe_bltn (v := .ty "list") (by rfl) mli (by decide +kernel) rfl) (pa_cons (pe_bltn (v := .ty "tuple") (by rfl) mt (by decide +kernel) rfl) pa_nil))) pa_nil))))
          (pss_cons (ps_if (PW.pt (pw_or (pt_cmpR op_ne (pe_callB call_isi (by rfl) mi (by decide +kernel) (pa_cons (pv 0) (pa_cons (pe_bltn (v := .ty "list") (by rfl) mli (by decide +kernel) rfl) pa_nil)))
                (pe_callB call_isi (by rfl) mi (by decide +kernel) (pa_cons (pv 1) (pa_cons (pe_bltn (v := .ty "list") (by rfl) mli (by decide +kernel) rfl) pa_nil))) (nomark _))
              (pw_or1 (pt_cmpR op_ne (pe_callB call_isi (by rfl) mi (by decide +kernel) (pa_cons (pv 0) (pa_cons (pe_bltn (v := .ty "tuple") (by rfl) mt (by decide +kernel) rfl) pa_nil)))
                (pe_callB call_isi (by rfl) mi (by decide +kernel) (pa_cons (pv 1) (pa_cons (pe_bltn (v := .ty "tuple") (by rfl) mt (by decide +kernel) rfl) pa_nil))) (nomark _))))) (pss_one (ps_ret pe_bl)) pss_nil)
          (pss_cons (ps_if (pt_cmpR op_ne (pe_callB call_len_seq (by rfl) ml PySem.boot_len (pa_cons (pv 0) pa_nil)) (pe_callB call_len_seq (by rfl) ml PySem.boot_len (pa_cons (pv 1) pa_nil)) (nomark _)) (pss_one (ps_ret pe_bl)) pss_nil)
          (pss_one (ps_ret (pe_cmpR (op_eqD hu64)
            (pe_lc (own := [("_law_k", 2)]) (g := gName 2) (tt := tNot (tB (tCall (spS K n) [] E0 (tCons (tOp (rIx K) (tVar 0) (tVar 2)) (tCons (tOp (rIx K) (tVar 1) (tVar 2)) tNil))))) (te := tVar 2) rfl scSame.nd
              (pi_range1 (by rfl) mr (pa_cons (pe_callB call_len_seq (by rfl) ml PySem.boot_len (pa_cons (pv 1) pa_nil)) pa_nil)) (blkOk_by (N := ["_law_found", "_law_due", "_law_k"]) (sc := defScope sSame) (by decide +kernel))
              (fun _ _ _ _ _ => pg_name (i := 2) scSame.nd rfl (.inl rfl))
              (fun _ _ _ _ _ => pts_one (pt_not (pt_val (pe_call G hr (by rfl) g F.kp b .nil pass0 (pa_cons (pe_ix ix_seq (pv 0) (pv 2) (fun _ _ => rfl)) (pa_cons (pe_ix ix_seq (pv 1) (pv 2) (fun _ _ => rfl)) pa_nil))))))
              (fun _ _ _ _ _ => pv 2))
            (pe_lst pa_nil) (nomark _)))))) pss_nil)
        (pss_cons (ps_if (pt_cmp (pc_isN (pv 1))) (pss_one (ps_ret (pe_cmp (pc_isN (pv 0))))) pss_nil)
        (pss_cons (ps_if (pt_val (pe_callB call_isi (by rfl) mi (by decide +kernel) (pa_cons (pv 1) (pa_cons (pe_bltn (v := .ty "str") (by rfl) mst (by decide +kernel) rfl) pa_nil))))
          (pss_one (ps_ret (pe_and (pe_callB call_isi (by rfl) mi (by decide +kernel) (pa_cons (pv 0) (pa_cons (pe_bltn (v := .ty "str") (by rfl) mst (by decide +kernel) rfl) pa_nil))) (pe_one (pe_cmpR op_eq (pv 0) (pv 1) (nomark _)))))) pss_nil)
        (pss_one (ps_ret (pe_and (pe_callB call_isi (by rfl) mi (by decide +kernel) (pa_cons (pv 0) (pa_cons (pe_bltn (v := .ty "int") (by rfl) mint (by decide +kernel) rfl) pa_nil)))
          (pe_and (pe_cmpR op_eq (pe_callB call_isi (by rfl) mi (by decide +kernel) (pa_cons (pv 0) (pa_cons (pe_bltn (v := .ty "bool") (by rfl) mbo (by decide +kernel) rfl) pa_nil)))
            (pe_callB call_isi (by rfl) mi (by decide +kernel) (pa_cons (pv 1) (pa_cons (pe_bltn (v := .ty "bool") (by rfl) mbo (by decide +kernel) rfl) pa_nil))) (nomark _))
            (pe_one (pe_cmpR op_eq (pv 0) (pv 1) (nomark _))))))))), ?_⟩
      refine ⟨y, rfl, (show (2 : Nat) ≤ sizeLine by decide), fun tp ntp => ?_⟩
      have s1 : Same H (upd H tp (.tup [.ty "list", .ty "tuple"])) := sameNew ntp
      have cls : (∃ (T : String) (a b' : Addr) (xs ys : List V) (ds : List PyData), x = .ref a ∧ y = .ref b' ∧ SeqAs K H a xs T ∧ SeqAs K H b' ys T ∧ DpAll K H xs ds ∧ DpAll K H ys ds ∧ ds.length ≤ 1000 ∧ plainAll ds = true ∧ PyData.depthAll ds + 1 ≤ n) ∨
          (x = .non ∧ y = .non) ∨ (∃ i, x = .int i ∧ y = .int i) ∨ (∃ b, x = .bl b ∧ y = .bl b) ∨ ∃ z, x = .str z ∧ y = .str z := by
        cases d with
        | none => cases hx; cases hy; exact .inr (.inl ⟨rfl, rfl⟩)
        | int i => cases hx; cases hy; exact .inr (.inr (.inl ⟨i, rfl, rfl⟩))
        | list ds =>
          simp only [plain, Bool.and_eq_true, decide_eq_true_eq] at hpl
          simp only [PyData.depth] at hdp
          cases hx with
          | lst h1 h2 => cases hy with
            | lst h3 h4 => exact .inl ⟨"list", _, _, _, _, ds, rfl, rfl, .l h1, .l h3, h2, h4, hpl.1, hpl.2, hdp⟩
        | tuple ds =>
          simp only [plain, Bool.and_eq_true, decide_eq_true_eq] at hpl
          simp only [PyData.depth] at hdp
          cases hx with
          | tup h1 h2 => cases hy with
            | tup h3 h4 => exact .inl ⟨"tuple", _, _, _, _, ds, rfl, rfl, .t h1, .t h3, h2, h4, hpl.1, hpl.2, hdp⟩
        | bool bb => cases hx; cases hy; exact .inr (.inr (.inr (.inl ⟨bb, rfl, rfl⟩)))
        | str z => cases hx; cases hy; exact .inr (.inr (.inr (.inr ⟨z, rfl, rfl⟩)))
        | dict _ => simp [plain] at hpl
      rcases cls with ⟨T, a, b', xs, ys, ds, rfl, rfl, hX, hY, dx, dy, hds, hpa, hda⟩ | ⟨rfl, rfl⟩ | ⟨i, rfl, rfl⟩ | ⟨bb, rfl, rfl⟩ | ⟨z, rfl, rfl⟩
      · have hX1 := hX.same s1
        have hY1 := hY.same s1
        refine ⟨.ref b', tp, _, _, _, true, rfl, upd_same, .cons (.ty _) (.cons (.ty _) .nil), hY1.ty, hY1.kits, true, rfl, iteT ?_⟩
        refine ⟨.ref a, rfl, .ref a, .ty "list", _, _, _, rfl, .ty _, hX1.ty, hX1.kit "list" (.inl rfl), .ref b', rfl, .ref b', .ty "list", _, _, _, rfl, .ty _, hY1.ty, hY1.kit "list" (.inl rfl), rfl, _, rfl, iteNS rfl ?_⟩
        refine ⟨.ref a, rfl, .ref a, .ty "tuple", _, _, _, rfl, .ty _, hX1.ty, hX1.kit "tuple" (.inr rfl), .ref b', rfl, .ref b', .ty "tuple", _, _, _, rfl, .ty _, hY1.ty, hY1.kit "tuple" (.inr rfl), rfl, _, rfl, iteNS rfl ?_⟩
        have lx := DpAll.len dx
        have ly := DpAll.len dy
        refine ⟨.ref a, rfl, a, xs, rfl, hX1.or, .ref b', rfl, b', ys, rfl, hY1.or, rfl, _, rfl, iteNS (by rw [lx, ly]) ?_⟩
        refine ⟨.ref b', rfl, b', ys, rfl, hY1.or, _, rfl, by omega, by omega, fun D nD => lc_it (walk_range (lo := 0) (n := (ys.length : Int).toNat))
          (fun j H2 => Same H H2 ∧ H2 D = some (.lst [])) ⟨s1.trans (sameNew nD), upd_same⟩ (fun _ _ _ _ => trivial) ?_ ?_⟩
        · rintro j v H2 H3 hlt ⟨s2, e2⟩ ⟨rfl, rfl⟩
          have hj : j < ys.length := by omega
          have hj2 : j < xs.length := by omega
          have ex : xs[j]? = some xs[j] := List.getElem?_eq_getElem hj2
          have ey : ys[j]? = some ys[j] := List.getElem?_eq_getElem hj
          obtain ⟨d1, hd1, hx1⟩ := DpAll.at dx ex
          obtain ⟨d2, hd2, hy1⟩ := DpAll.at dy ey
          rw [hd1] at hd2
          cases hd2
          have hpd := plainAll_at hpa hd1
          have hdd := depthAll_at hd1
          obtain ⟨n', rfl⟩ : ∃ n', n = n' + 1 := ⟨n - 1, by omega⟩
          have e0 : (0 : Int) + (j : Nat) = (j : Nat) := by omega
          dsimp only
          rw [e0]
          refine ⟨rfl, .ref a, rfl, .int (j : Nat), rfl, (hX.same s2).ix ex ⟨.ref b', rfl, .int (j : Nat), rfl, (hY.same s2).ix ey ?_⟩⟩
          refine ⟨_, _, d1, rfl, same_dp s2 hpd hx1, same_dp s2 hpd hy1, hpd, by omega, fun H4 s4 => ⟨_, rfl, ?_⟩⟩
          exact ⟨s2.trans s4, s4 _ _ e2⟩
        · rintro H2 ⟨s2, e2⟩
          refine ⟨Nat.zero_le _, fun p np => ⟨.list [], .list [], .lst (SqL.of (upNew np e2)) .nil, .lst (SqL.of upd_same) .nil, by decide, by decide, ?_⟩⟩
          rw [eqv_nil]
          exact q _ (s2.trans (sameNew np))
      · have kn : PySem.W.kitAny K (.type "NoneType") [.type "list", .type "tuple"] = some false :=
          kitAny_cons (kit_ty (b := "list") (r := false) (by decide +kernel)) (fun _ => kitAny_cons (kit_ty (b := "tuple") (r := false) (by decide +kernel)) (fun _ => kitAny_nil) (fun z => by cases z)) (fun z => by cases z)
        refine ⟨.non, tp, _, _, _, false, rfl, upd_same, .cons (.ty _) (.cons (.ty _) .nil), .base .non, kn, false, rfl, iteF ?_⟩
        refine ⟨.non, rfl, _, rfl, iteT ?_⟩
        exact ⟨.non, rfl, q _ s1⟩
      · have kn : PySem.W.kitAny K (.type "int") [.type "list", .type "tuple"] = some false :=
          kitAny_cons (kit_ty (b := "list") (r := false) (by decide +kernel)) (fun _ => kitAny_cons (kit_ty (b := "tuple") (r := false) (by decide +kernel)) (fun _ => kitAny_nil) (fun z => by cases z)) (fun z => by cases z)
        refine ⟨.int i, tp, _, _, _, false, rfl, upd_same, .cons (.ty _) (.cons (.ty _) .nil), .base (.int i), kn, false, rfl, iteF ?_⟩
        refine ⟨.int i, rfl, _, rfl, iteF ?_⟩
        refine ⟨.int i, rfl, .int i, .ty "str", _, _, false, rfl, .ty _, .base (.int i), kit_ty (by decide +kernel), false, rfl, iteF ?_⟩
        refine ⟨.int i, rfl, .int i, .ty "int", _, _, true, rfl, .ty _, .base (.int i), kit_ty (by decide +kernel), true, rfl, iteT ?_⟩
        refine ⟨.int i, rfl, .int i, .ty "bool", _, _, false, rfl, .ty _, .base (.int i), kit_ty (by decide +kernel), .int i, rfl, .int i, .ty "bool", _, _, false, rfl, .ty _, .base (.int i), kit_ty (by decide +kernel), rfl, _, rfl, iteT ?_⟩
        refine ⟨.int i, rfl, .int i, rfl, rfl, ?_⟩
        have := q _ s1
        rw [decide_eq_true rfl]
        exact this
      · have kn : PySem.W.kitAny K (.type "bool") [.type "list", .type "tuple"] = some false :=
          kitAny_cons (kit_ty (b := "list") (r := false) (by decide +kernel)) (fun _ => kitAny_cons (kit_ty (b := "tuple") (r := false) (by decide +kernel)) (fun _ => kitAny_nil) (fun z => by cases z)) (fun z => by cases z)
        refine ⟨.bl bb, tp, _, _, _, false, rfl, upd_same, .cons (.ty _) (.cons (.ty _) .nil), .base (.bl bb), kn, false, rfl, iteF ?_⟩
        refine ⟨.bl bb, rfl, _, rfl, iteF ?_⟩
        refine ⟨.bl bb, rfl, .bl bb, .ty "str", _, _, false, rfl, .ty _, .base (.bl bb), kit_ty (by decide +kernel), false, rfl, iteF ?_⟩
        refine ⟨.bl bb, rfl, .bl bb, .ty "int", _, _, true, rfl, .ty _, .base (.bl bb), kit_ty (by decide +kernel), true, rfl, iteT ?_⟩
        refine ⟨.bl bb, rfl, .bl bb, .ty "bool", _, _, true, rfl, .ty _, .base (.bl bb), kit_ty (by decide +kernel), .bl bb, rfl, .bl bb, .ty "bool", _, _, true, rfl, .ty _, .base (.bl bb), kit_ty (by decide +kernel), rfl, _, rfl, iteT ?_⟩
        refine ⟨.bl bb, rfl, .bl bb, rfl, rfl, ?_⟩
        have := q _ s1
        rw [decide_eq_true rfl]
        exact this
      · have kn : PySem.W.kitAny K (.type "str") [.type "list", .type "tuple"] = some false :=
          kitAny_cons (kit_ty (b := "list") (r := false) (by decide +kernel)) (fun _ => kitAny_cons (kit_ty (b := "tuple") (r := false) (by decide +kernel)) (fun _ => kitAny_nil) (fun z => by cases z)) (fun z => by cases z)
        refine ⟨.str z, tp, _, _, _, false, rfl, upd_same, .cons (.ty _) (.cons (.ty _) .nil), .base (.str z), kn, false, rfl, iteF ?_⟩
        refine ⟨.str z, rfl, _, rfl, iteF ?_⟩
        refine ⟨.str z, rfl, .str z, .ty "str", _, _, true, rfl, .ty _, .base (.str z), kit_ty (by decide +kernel), true, rfl, iteT ?_⟩
        refine ⟨.str z, rfl, .str z, .ty "str", _, _, true, rfl, .ty _, .base (.str z), kit_ty (by decide +kernel), true, rfl, iteT ?_⟩
        refine ⟨.str z, rfl, .str z, rfl, rfl, ?_⟩
        have := q _ s1
        rw [decide_eq_true rfl]
        exact this
end
end Pv

namespace Pv
open PySem PySem.Spec PyProof.Rows L2
abbrev sRl : Stmt := topS 7
theorem scRl : FnScope ["instance", "order", "capacities", "groups", "post", "posts", "count"] ["instance", "order"] (defScope sRl) := ⟨rfl, rfl, rfl, by decide +kernel, rfl, by decide +kernel, by decide +kernel⟩
abbrev sLRl : Stmt := topS 19
theorem scLRl : FnScope ["_law_instance_here", "_law_order", "_law_sizes", "_law_rows", "_law_found", "_law_wish", "_law_count", "_law_post"] ["_law_instance_here", "_law_order"] (defScope sLRl) := ⟨rfl, rfl, rfl, by decide +kernel, rfl, by decide +kernel, by decide +kernel⟩
abbrev sJn : Stmt := topS 8
theorem scJn : FnScope ["first", "second", "shift", "groups", "posts", "count", "post"] ["first", "second"] (defScope sJn) := ⟨rfl, rfl, rfl, by decide +kernel, rfl, by decide +kernel, by decide +kernel⟩
abbrev sLJd : Stmt := topS 18
theorem scLJd : FnScope ["_law_first", "_law_second", "_law_rows", "_law_wish", "_law_count", "_law_post"] ["_law_first", "_law_second"] (defScope sLJd) := ⟨rfl, rfl, rfl, by decide +kernel, rfl, by decide +kernel, by decide +kernel⟩
abbrev siTM : Stmt := inCls (topS 5) 0
theorem sciTM : FnScope ["self", "limit"] ["self", "limit"] (defScope siTM) := ⟨rfl, rfl, rfl, by decide +kernel, rfl, by decide +kernel, by decide +kernel⟩
theorem ok_iTM {P : Program} {w : World} {K : PySem.W.Frag} {mg : Str → Option Value} {base : Heap} {f C : Addr} {fd : FuncData} (F : Fun K "__init__" "TooMany.__init__" siTM f fd) (X : XF K C f "limit") : FnOk P w K mg base CX0 1 f fd ["self", "limit"] (spI1 C "limit") := by
  refine F.ok sciTM (fun vs H Q E h => ?_) (fun cdv A outer s H vs Q E hr h => ?_)
  · obtain ⟨a, v, rfl, _⟩ := h; rfl
  · obtain ⟨a, v, rfl, hH, q⟩ := h
    refine ⟨_, pss_one (ps_ost (pv 0) (pv 1)), ?_⟩
    exact ⟨v, rfl, .ref a, rfl, a, C, rfl, X.T, X.no, .inl ⟨hH, fun dx nd ne => q dx nd ne⟩⟩
def ixOf : List Int → Int → Nat
  | [], _ => 0
  | x :: xs, p => if x = p then 0 else ixOf xs p + 1
theorem ixOf_at : ∀ {l : List Int} {p : Int}, p ∈ l → l[ixOf l p]? = some p ∧ ∀ m, m < ixOf l p → l[m]? ≠ some p
  | [], _, h => by simp at h
  | x :: xs, p, h => by
    unfold ixOf
    by_cases e : x = p
    · subst e; simp
    · rw [if_neg e]
      have hp : p ∈ xs := by
        rcases List.mem_cons.mp h with h | h
        · exact absurd h.symm e
        · exact h
      obtain ⟨h1, h2⟩ := ixOf_at hp
      refine ⟨by simpa using h1, fun m hm => ?_⟩
      cases m with
      | zero => simpa using e
      | succ m => simpa using h2 m (by omega)
theorem ixOf_eq {l : List Int} {p : Int} {j : Nat} (h1 : l[j]? = some p) (h2 : ∀ m, m < j → l[m]? ≠ some p) : ixOf l p = j := by
  obtain ⟨a1, a2⟩ := ixOf_at (List.mem_of_getElem? h1)
  rcases Nat.lt_trichotomy (ixOf l p) j with h | h | h
  · exact absurd a1 (h2 _ h)
  · exact h
  · exact absurd h1 (a2 _ h)
def relC (cs ord : List Int) : List Int := ord.map fun p => cs.getD p.toNat 0
def relP (ord ps : List Int) : List Int := ps.map fun p => (ixOf ord p : Int)
def relG (ord : List Int) (gs : List Gp) : List Gp := gs.map fun g => (relP ord g.1, g.2)
structure RelOk (cs : List Int) (gs : List Gp) (ord : List Int) : Prop where
  g10 : gs.length ≤ 10
  o6 : ord.length ≤ 6
  ob : ∀ x ∈ ord, 0 ≤ x ∧ x < (cs.length : Int)
  gp : ∀ g ∈ gs, g.1.length ≤ 6 ∧ ∀ p ∈ g.1, p ∈ ord
def shP (n : Nat) (ps : List Int) : List Int := ps.map fun p => p + (n : Int)
def shG (n : Nat) (gs : List Gp) : List Gp := gs.map fun g => (shP n g.1, g.2)
section
variable {P : Program} {w : World} {K : PySem.W.Frag} {mg : Str → Option Value} {base : Heap}
def spRel (K : PySem.W.Frag) : Sp := fun vs H Q _ => ∃ (i o : Addr) (cs : List Int) (gs : List Gp) (ord : List Int), vs = [.ref i, .ref o] ∧ Dp K H (.ref i) (dInst cs gs) ∧ NoD H o (ord.map V.int) ∧ RelOk cs gs ord ∧ ∀ H' p, Same H H' → Dp K H' (.ref p) (dInst (relC cs ord) (relG ord gs)) → Q (.ref p) H'
/-- the capacities in the new order -/
theorem caps_turn {H H2 : Hp} {D o ca : Addr} {cs ord : List Int} {gs : List Gp} (ok : RelOk cs gs ord) (nD : H D = none) {j : Nat} {v : V} (s2 : Same H H2) (e2 : H2 D = some (.lst (((relC cs ord).take j).map V.int))) (hv : (ord.map V.int)[j]? = some v) :
    ∃ p : Int, v = .int p ∧ (cs.map V.int)[p.toNat]? = some (.int (cs.getD p.toNat 0)) ∧ p = (p.toNat : Int) ∧ (((relC cs ord).take j).map V.int).length < sizeLine ∧ Same H (upd H2 D (.lst (((relC cs ord).take j).map V.int ++ [.int (cs.getD p.toNat 0)]))) ∧
      (upd H2 D (.lst (((relC cs ord).take j).map V.int ++ [.int (cs.getD p.toNat 0)]))) D = some (.lst (((relC cs ord).take (j + 1)).map V.int)) := by
  rw [List.getElem?_map] at hv
  obtain ⟨p, hp, rfl⟩ := Option.map_eq_some_iff.mp hv
  have hb := ok.ob p (List.mem_of_getElem? hp)
  have h6 := ok.o6
  have hl : p.toNat < cs.length := by omega
  refine ⟨p, rfl, ?_, by omega, ?_, samePut s2 nD, ?_⟩
  · rw [List.getElem?_map, List.getElem?_eq_getElem hl, List.getD_eq_getElem?_getD, List.getElem?_eq_getElem hl]; rfl
  · have hjl : j < ord.length := (List.getElem?_eq_some_iff.mp hp).1
    rw [List.length_map, List.length_take]; exact small (by omega)
  · have hm : (relC cs ord)[j]? = some (cs.getD p.toNat 0) := by unfold relC; rw [List.getElem?_map, hp]; rfl
    rw [upd_same, take_snoc hm, List.map_append]; rfl
set_option maxHeartbeats 4000000 in
theorem ok_Rl {f : Addr} {fd : FuncData} (F : Fun K "relabel_posts" "relabel_posts" sRl f fd)
    (m_tuple : mg "tuple" = none) :
    FnOk P w K mg base CX0 1 f fd ["instance", "order"] (spRel K) := by
  refine F.ok scRl (fun vs H Q E h => ?_) (fun cdv A outer s H vs Q E hr h => ?_)
  · obtain ⟨i, o, cs, gs, ord, rfl, _⟩ := h; rfl
  · obtain ⟨i, o, cs, gs, ord, rfl, hI, hN, ok, q⟩ := h
    refine ⟨_, pss_cons (ps_set (i := 2) scRl.nd rfl (.inl rfl) (pe_callTy call_tupQ (by rfl) m_tuple (by decide +kernel) (pa_cons (pe_lc (own := [("post", 4)]) (g := gName 4) (tt := tYes) (te := tOp (rIxT K) (tOp (rIxT K) (tVar 0) (tC (.int 0))) (tVar 4)) rfl scRl.nd (pi_tup (pv 1)) (blkOk_by (N := ["instance", "order", "capacities", "groups", "post", "posts", "count"]) (sc := defScope sRl) (by decide +kernel)) (fun _ _ _ _ _ => pg_name (i := 4) scRl.nd rfl (.inl rfl)) (fun _ _ _ _ _ => pts_nil) (fun _ _ _ _ _ => pe_ix ix_tup (pe_ix ix_tup (pv 0) (pe_int) (fun _ _ => rfl)) (pv 4) (fun _ _ => rfl))) pa_nil)))
      (pss_cons (ps_setLc (i := 3) (own := [("posts", 5), ("count", 6)]) (g := gTup K 2 (gCons (gName 5) (gCons (gName 6) gNil))) (tt := tYes) (te := tTup (tCons (tCB (rTupQ K) (tCons (tLc (iTup K (tVar 5)) (gName 4) (tYes) (tBT (rIxOf K) (tVar 1) (tCons (tVar 4) tNil)) [4]) tNil)) (tCons (tVar 6) tNil))) rfl scRl.nd rfl rfl (sw_true rfl rfl rfl (by decide +kernel)) (pi_tup (pe_ix ix_tup (pv 0) (pe_int) (fun _ _ => rfl))) (blkOk_by (N := ["instance", "order", "capacities", "groups", "post", "posts", "count"]) (sc := defScope sRl) (by decide +kernel)) (fun _ _ _ _ _ => pg_tup rfl (pgs_cons (pg_name (i := 5) scRl.nd rfl (.inl rfl)) (pgs_cons (pg_name (i := 6) scRl.nd rfl (.inl rfl)) pgs_nil))) (fun _ _ _ _ _ => pts_nil) (fun _ _ _ _ _ => pe_tup (pa_cons (pe_callTy call_tupQ (by rfl) m_tuple (by decide +kernel) (pa_cons (pe_lc (own := [("post", 4)]) (g := gName 4) (tt := tYes) (te := tBT (rIxOf K) (tVar 1) (tCons (tVar 4) tNil)) rfl scRl.nd (pi_tup (pv 5)) (blkOk_by (N := ["instance", "order", "capacities", "groups", "post", "posts", "count"]) (sc := { kind := .function, names := [(".0", .local), ("posts", .local), ("count", .local), ("tuple", .globalImplicit), ("order", .cell)], isGenerator := false, isCoroutine := false }) (by decide +kernel)) (fun _ _ _ _ _ => pg_name (i := 4) scRl.nd rfl (.inl rfl)) (fun _ _ _ _ _ => pts_nil) (fun _ _ _ _ _ => pe_bmT PySem.F.slot_tuple_index PySem.F.type_tuple_index mt_indexT (pv 1) (pa_cons (pv 4) pa_nil))) pa_nil)) (pa_cons (pv 6) pa_nil))))
      (pss_one (ps_ret (pe_tup (pa_cons (pv 2) (pa_cons (pe_callTy call_tupQ (by rfl) m_tuple (by decide +kernel) (pa_cons (pv 3) pa_nil)) pa_nil)))))), ?_⟩
    have hO : SqT K H o (ord.map V.int) := hN.sq
    obtain ⟨_, ca, ga, xs, e, hi, hc, hgt, hgs⟩ := inst_open hI
    cases e
    have lx := DpAll.len hgs
    rw [List.length_map] at lx
    have h10 := ok.g10
    refine ⟨.ref o, rfl, o, rfl, ⟨_, hO⟩, fun D nD => lc_it (walk_tup (K := K) (a := o) (xs := ord.map V.int))
      (fun j H2 => Same H H2 ∧ H2 D = some (.lst (((relC cs ord).take j).map V.int))) ⟨sameNew nD, upd_same⟩ (fun j H2 _ h => (TupK.of h.1).sq hO) ?_ ?_⟩
    · rintro j v H2 H3 hlt ⟨s2, e2⟩ ⟨rfl, hv⟩
      obtain ⟨p, rfl, hcv, hpn, hln, sP, eP⟩ := caps_turn ok nD s2 e2 hv (o := o) (ca := ca)
      refine ⟨rfl, .ref i, rfl, i, _, 0, .ref ca, rfl, rfl, (TupK.of s2).sq hi, atI_nat (j := 0) rfl, .int p, rfl, ca, _, _, _, rfl, rfl, (TupK.of s2).sq hc, ?_, _, e2, hln, sP, eP⟩
      rw [hpn]; exact atI_nat hcv
    rintro H2 ⟨s2, e2⟩
    rw [List.length_map, List.take_of_length_le (by unfold relC; rw [List.length_map]; exact Nat.le_refl _)] at e2
    refine ⟨D, _, rfl, .inl ⟨SqL.of e2, fun Ct nCt => ?_⟩⟩
    have s3 := s2.trans (sameNew (o := .tup ((relC cs ord).map V.int)) nCt)
    have hCt : SqT K (upd H2 Ct (.tup ((relC cs ord).map V.int))) Ct ((relC cs ord).map V.int) := SqT.of upd_same
    generalize upd H2 Ct (.tup ((relC cs ord).map V.int)) = H3 at s3 hCt
    refine ⟨.ref i, rfl, i, _, 1, .ref ga, rfl, rfl, (TupK.of s3).sq hi, atI_nat (j := 1) rfl, ga, rfl, ⟨_, (TupK.of s3).sq hgt⟩, fun D2 nD2 => lc_it (walk_tup (K := K) (a := ga) (xs := xs))
      (fun j H4 => Same H3 H4 ∧ ∃ vs, H4 D2 = some (.lst vs) ∧ vs.length = j ∧ DpAll K H4 vs (((relG ord gs).take j).map dGrp)) ⟨sameNew nD2, [], upd_same, rfl, .nil⟩ (fun j H4 _ h => (TupK.of (s3.trans h.1)).sq hgt) ?_ ?_⟩
    · rintro j v H4 H5 hlt ⟨s4, vs, e4, hvl, hvs⟩ ⟨rfl, hv⟩
      obtain ⟨d, hd, hvd⟩ := DpAll.at hgs hv
      rw [List.getElem?_map] at hd
      obtain ⟨g, hg, rfl⟩ := Option.map_eq_some_iff.mp hd
      obtain ⟨gA, pA, rfl, hG, hP⟩ := grp_ref ((TupK.of (s3.trans s4)).dp _ _ (to_dGrp g) hvd)
      obtain ⟨gl, gb⟩ := ok.gp g (List.mem_of_getElem? hg)
      refine ⟨gA, _, rfl, hG, rfl, _, _, rfl, _, _, rfl, rfl, rfl, .ref pA, rfl, pA, rfl, ⟨_, hP⟩, fun D3 nD3 => lc_it (walk_tup (K := K) (a := pA) (xs := g.1.map V.int))
        (fun k H6 => Same H5 H6 ∧ H6 D3 = some (.lst (((relP ord g.1).take k).map V.int))) ⟨sameNew nD3, upd_same⟩ (fun k H6 _ h => (TupK.of h.1).sq hP) ?_ ?_⟩
      · rintro k v H6 H7 hltk ⟨s6, e6⟩ ⟨rfl, hv⟩
        rw [List.getElem?_map] at hv
        obtain ⟨p, hp, rfl⟩ := Option.map_eq_some_iff.mp hv
        rw [List.length_map] at hltk
        obtain ⟨a1, a2⟩ := ixOf_at (gb p (List.mem_of_getElem? hp))
        refine ⟨rfl, .ref o, rfl, ⟨o, _, rfl, hN.same ((s3.trans s4).trans s6)⟩, .int p, rfl, o, ord, p, ixOf ord p, rfl, rfl, (TupK.of ((s3.trans s4).trans s6)).sq hO, a1, a2, _, e6, ?_, samePut s6 nD3, ?_⟩
        · rw [List.length_map, List.length_take]; exact small (by omega)
        · have hm : (relP ord g.1)[k]? = some (ixOf ord p : Int) := by unfold relP; rw [List.getElem?_map, hp]; rfl
          rw [upd_same, take_snoc hm, List.map_append]; rfl
      rintro H6 ⟨s6, e6⟩
      rw [List.length_map, List.take_of_length_le (by unfold relP; rw [List.length_map]; exact Nat.le_refl _)] at e6
      refine ⟨D3, _, rfl, .inl ⟨SqL.of e6, fun Pt nPt => ⟨.int g.2, rfl, (show (2 : Nat) ≤ sizeLine by decide), fun T nT => ?_⟩⟩⟩
      have sP := sameNew (o := .tup ((relP ord g.1).map V.int)) nPt
      have sT := sameNew (o := .tup [.ref Pt, .int g.2]) nT
      have sA := (s6.trans sP).trans sT
      have e5 := sA _ _ e4
      have tkp : TupK _ (upd (upd (upd H6 Pt (.tup ((relP ord g.1).map V.int))) T (.tup [.ref Pt, .int g.2])) D2 (.lst (vs ++ [.ref T]))) := TupK.put e5
      refine ⟨vs, e5, by rw [hvl]; exact small (by omega), samePut (s4.trans sA) nD2, vs ++ [.ref T], upd_same, by simp [hvl], ?_⟩
      have hm : (relG ord gs)[j]? = some (relP ord g.1, g.2) := by unfold relG; rw [List.getElem?_map, hg]; rfl
      rw [take_snoc hm, List.map_append]
      exact DpAll.snoc (((TupK.of sA).trans tkp).dpAll _ _ (to_grps _) hvs) (.tup (tkp.sq (SqT.of upd_same)) (.cons (dI_sq (((TupK.of sT).trans tkp).sq (SqT.of upd_same))) (.cons (.int _) .nil)))
    rintro H4 ⟨s4, vs, e4, hvl, hvs⟩
    have hfull : (relG ord gs).take xs.length = relG ord gs := by
      rw [lx]; unfold relG; exact List.take_of_length_le (by rw [List.length_map]; exact Nat.le_refl _)
    rw [hfull] at hvs
    refine ⟨.ref Ct, rfl, .ref D2, rfl, D2, _, rfl, .inl ⟨SqL.of e4, fun Gt nGt => ⟨(show (2 : Nat) ≤ sizeLine by decide), fun R nR => ?_⟩⟩⟩
    have sG := sameNew (o := .tup vs) nGt
    have sR := sameNew (o := .tup [.ref Ct, .ref Gt]) nR
    have sA := (s4.trans sG).trans sR
    exact q _ R (s3.trans sA) (.tup (SqT.of upd_same) (.cons (dI_sq ((TupK.of sA).sq hCt)) (.cons (.tup ((TupK.of sR).sq (SqT.of upd_same)) ((TupK.of (sG.trans sR)).dpAll _ _ (to_grps _) hvs)) .nil)))
set_option maxHeartbeats 4000000 in
theorem ok_LRl {f : Addr} {fd : FuncData} (F : Fun K "_law_relabelled" "_law_relabelled" sLRl f fd)
    (m_tuple : mg "tuple" = none) :
    FnOk P w K mg base CX0 1 f fd ["_law_instance_here", "_law_order"] (spRel K) := by
  refine F.ok scLRl (fun vs H Q E h => ?_) (fun cdv A outer s H vs Q E hr h => ?_)
  · obtain ⟨i, o, cs, gs, ord, rfl, _⟩ := h; rfl
  · obtain ⟨i, o, cs, gs, ord, rfl, hI, hN, ok, q⟩ := h
    refine ⟨_, pss_cons (ps_asg (pv 0) (pg_tup rfl (pgs_cons (pg_name (i := 2) scLRl.nd rfl (.inr rfl)) (pgs_cons (pg_name (i := 3) scLRl.nd rfl (.inl rfl)) pgs_nil))))
      (pss_cons (ps_setLc (i := 4) (own := [("_law_wish", 5), ("_law_count", 6)]) (g := gTup K 2 (gCons (gName 5) (gCons (gName 6) gNil))) (tt := tYes) (te := tTup (tCons (tCB (rTupQ K) (tCons (tLc (iTup K (tVar 5)) (gName 7) (tYes) (tBT (rIxOf K) (tVar 1) (tCons (tVar 7) tNil)) [7]) tNil)) (tCons (tVar 6) tNil))) rfl scLRl.nd rfl rfl (sw_true rfl rfl rfl (by decide +kernel)) (pi_tup (pv 3)) (blkOk_by (N := ["_law_instance_here", "_law_order", "_law_sizes", "_law_rows", "_law_found", "_law_wish", "_law_count", "_law_post"]) (sc := defScope sLRl) (by decide +kernel)) (fun _ _ _ _ _ => pg_tup rfl (pgs_cons (pg_name (i := 5) scLRl.nd rfl (.inl rfl)) (pgs_cons (pg_name (i := 6) scLRl.nd rfl (.inl rfl)) pgs_nil))) (fun _ _ _ _ _ => pts_nil) (fun _ _ _ _ _ => pe_tup (pa_cons (pe_callTy call_tupQ (by rfl) m_tuple (by decide +kernel) (pa_cons (pe_lc (own := [("_law_post", 7)]) (g := gName 7) (tt := tYes) (te := tBT (rIxOf K) (tVar 1) (tCons (tVar 7) tNil)) rfl scLRl.nd (pi_tup (pv 5)) (blkOk_by (N := ["_law_instance_here", "_law_order", "_law_sizes", "_law_rows", "_law_found", "_law_wish", "_law_count", "_law_post"]) (sc := { kind := .function, names := [(".0", .local), ("_law_wish", .local), ("_law_count", .local), ("tuple", .globalImplicit), ("_law_order", .cell)], isGenerator := false, isCoroutine := false }) (by decide +kernel)) (fun _ _ _ _ _ => pg_name (i := 7) scLRl.nd rfl (.inl rfl)) (fun _ _ _ _ _ => pts_nil) (fun _ _ _ _ _ => pe_bmT PySem.F.slot_tuple_index PySem.F.type_tuple_index mt_indexT (pv 1) (pa_cons (pv 7) pa_nil))) pa_nil)) (pa_cons (pv 6) pa_nil))))
      (pss_one (ps_ret (pe_tup (pa_cons (pe_callTy call_tupQ (by rfl) m_tuple (by decide +kernel) (pa_cons (pe_lc (own := [("_law_post", 7)]) (g := gName 7) (tt := tYes) (te := tOp (rIxT K) (tVar 2) (tVar 7)) rfl scLRl.nd (pi_tup (pv 1)) (blkOk_by (N := ["_law_instance_here", "_law_order", "_law_sizes", "_law_rows", "_law_found", "_law_wish", "_law_count", "_law_post"]) (sc := defScope sLRl) (by decide +kernel)) (fun _ _ _ _ _ => pg_name (i := 7) scLRl.nd rfl (.inl rfl)) (fun _ _ _ _ _ => pts_nil) (fun _ _ _ _ _ => pe_ix ix_tup (pv 2) (pv 7) (fun _ _ => rfl))) pa_nil)) (pa_cons (pe_callTy call_tupQ (by rfl) m_tuple (by decide +kernel) (pa_cons (pv 4) pa_nil)) pa_nil)))))), ?_⟩
    have hO : SqT K H o (ord.map V.int) := hN.sq
    obtain ⟨_, ca, ga, xs, e, hi, hc, hgt, hgs⟩ := inst_open hI
    cases e
    have lx := DpAll.len hgs
    rw [List.length_map] at lx
    have h10 := ok.g10
    refine ⟨.ref i, rfl, i, _, rfl, hi, rfl, _, _, rfl, _, _, rfl, rfl, ?_⟩
    refine ⟨.ref ga, rfl, ga, rfl, ⟨_, hgt⟩, fun D2 nD2 => lc_it (walk_tup (K := K) (a := ga) (xs := xs))
      (fun j H4 => Same H H4 ∧ ∃ vs, H4 D2 = some (.lst vs) ∧ vs.length = j ∧ DpAll K H4 vs (((relG ord gs).take j).map dGrp)) ⟨sameNew nD2, [], upd_same, rfl, .nil⟩ (fun j H4 _ h => (TupK.of h.1).sq hgt) ?_ ?_⟩
    · rintro j v H4 H5 hlt ⟨s4, vs, e4, hvl, hvs⟩ ⟨rfl, hv⟩
      obtain ⟨d, hd, hvd⟩ := DpAll.at hgs hv
      rw [List.getElem?_map] at hd
      obtain ⟨g, hg, rfl⟩ := Option.map_eq_some_iff.mp hd
      obtain ⟨gA, pA, rfl, hG, hP⟩ := grp_ref ((TupK.of s4).dp _ _ (to_dGrp g) hvd)
      obtain ⟨gl, gb⟩ := ok.gp g (List.mem_of_getElem? hg)
      refine ⟨gA, _, rfl, hG, rfl, _, _, rfl, _, _, rfl, rfl, rfl, .ref pA, rfl, pA, rfl, ⟨_, hP⟩, fun D3 nD3 => lc_it (walk_tup (K := K) (a := pA) (xs := g.1.map V.int))
        (fun k H6 => Same H5 H6 ∧ H6 D3 = some (.lst (((relP ord g.1).take k).map V.int))) ⟨sameNew nD3, upd_same⟩ (fun k H6 _ h => (TupK.of h.1).sq hP) ?_ ?_⟩
      · rintro k v H6 H7 hltk ⟨s6, e6⟩ ⟨rfl, hv⟩
        rw [List.getElem?_map] at hv
        obtain ⟨p, hp, rfl⟩ := Option.map_eq_some_iff.mp hv
        rw [List.length_map] at hltk
        obtain ⟨a1, a2⟩ := ixOf_at (gb p (List.mem_of_getElem? hp))
        refine ⟨rfl, .ref o, rfl, ⟨o, _, rfl, hN.same (s4.trans s6)⟩, .int p, rfl, o, ord, p, ixOf ord p, rfl, rfl, (TupK.of (s4.trans s6)).sq hO, a1, a2, _, e6, ?_, samePut s6 nD3, ?_⟩
        · rw [List.length_map, List.length_take]; exact small (by omega)
        · have hm : (relP ord g.1)[k]? = some (ixOf ord p : Int) := by unfold relP; rw [List.getElem?_map, hp]; rfl
          rw [upd_same, take_snoc hm, List.map_append]; rfl
      rintro H6 ⟨s6, e6⟩
      rw [List.length_map, List.take_of_length_le (by unfold relP; rw [List.length_map]; exact Nat.le_refl _)] at e6
      refine ⟨D3, _, rfl, .inl ⟨SqL.of e6, fun Pt nPt => ⟨.int g.2, rfl, (show (2 : Nat) ≤ sizeLine by decide), fun T nT => ?_⟩⟩⟩
      have sP := sameNew (o := .tup ((relP ord g.1).map V.int)) nPt
      have sT := sameNew (o := .tup [.ref Pt, .int g.2]) nT
      have sA := (s6.trans sP).trans sT
      have e5 := sA _ _ e4
      have tkp : TupK _ (upd (upd (upd H6 Pt (.tup ((relP ord g.1).map V.int))) T (.tup [.ref Pt, .int g.2])) D2 (.lst (vs ++ [.ref T]))) := TupK.put e5
      refine ⟨vs, e5, by rw [hvl]; exact small (by omega), samePut (s4.trans sA) nD2, vs ++ [.ref T], upd_same, by simp [hvl], ?_⟩
      have hm : (relG ord gs)[j]? = some (relP ord g.1, g.2) := by unfold relG; rw [List.getElem?_map, hg]; rfl
      rw [take_snoc hm, List.map_append]
      exact DpAll.snoc (((TupK.of sA).trans tkp).dpAll _ _ (to_grps _) hvs) (.tup (tkp.sq (SqT.of upd_same)) (.cons (dI_sq (((TupK.of sT).trans tkp).sq (SqT.of upd_same))) (.cons (.int _) .nil)))
    rintro H4 ⟨s4, vs, e4, hvl, hvs⟩
    have hfull : (relG ord gs).take xs.length = relG ord gs := by
      rw [lx]; unfold relG; exact List.take_of_length_le (by rw [List.length_map]; exact Nat.le_refl _)
    rw [hfull] at hvs
    refine ⟨.ref o, rfl, o, rfl, ⟨_, (TupK.of s4).sq hO⟩, fun D nD => lc_it (walk_tup (K := K) (a := o) (xs := ord.map V.int))
      (fun j H2 => Same H4 H2 ∧ H2 D = some (.lst (((relC cs ord).take j).map V.int))) ⟨sameNew nD, upd_same⟩ (fun j H2 _ h => (TupK.of (s4.trans h.1)).sq hO) ?_ ?_⟩
    · rintro j v H2 H3 hlt ⟨s2, e2⟩ ⟨rfl, hv⟩
      obtain ⟨p, rfl, hcv, hpn, hln, sP, eP⟩ := caps_turn ok nD s2 e2 hv (o := o) (ca := ca)
      refine ⟨rfl, .ref ca, rfl, .int p, rfl, ca, _, _, _, rfl, rfl, (TupK.of (s4.trans s2)).sq hc, ?_, _, e2, hln, sP, eP⟩
      rw [hpn]; exact atI_nat hcv
    rintro H2 ⟨s2, e2⟩
    rw [List.length_map, List.take_of_length_le (by unfold relC; rw [List.length_map]; exact Nat.le_refl _)] at e2
    refine ⟨D, _, rfl, .inl ⟨SqL.of e2, fun Ct nCt => ?_⟩⟩
    have sC := sameNew (o := .tup ((relC cs ord).map V.int)) nCt
    refine ⟨.ref D2, rfl, D2, _, rfl, .inl ⟨SqL.of (sC _ _ (s2 _ _ e4)), fun Gt nGt => ⟨(show (2 : Nat) ≤ sizeLine by decide), fun R nR => ?_⟩⟩⟩
    have sG := sameNew (o := .tup vs) nGt
    have sR := sameNew (o := .tup [.ref Ct, .ref Gt]) nR
    have sB := sG.trans sR
    have sA := (s2.trans sC).trans sB
    exact q _ R (s4.trans sA) (.tup (SqT.of upd_same) (.cons (dI_sq ((TupK.of sB).sq (SqT.of upd_same))) (.cons (.tup ((TupK.of sR).sq (SqT.of upd_same)) ((TupK.of sA).dpAll _ _ (to_grps _) hvs)) .nil)))
end
end Pv

namespace Pv
open PySem PySem.Spec PyProof.Rows L2
abbrev sLJ : Stmt := topS 17
theorem scLJ : FnScope ["_law_first", "_law_second", "_law_told", "e"] ["_law_first", "_law_second"] (defScope sLJ) := ⟨rfl, rfl, rfl, by decide +kernel, rfl, by decide +kernel, by decide +kernel⟩
def joinD (cs1 : List Int) (gs1 : List Gp) (cs2 : List Int) (gs2 : List Gp) : PyData :=
  if cs1.length + cs2.length > 6 then .list [.str "many", .int 6, .bool true] else if gs1.length + gs2.length > 10 then .list [.str "many", .int 10, .bool true]
  else .list [.str "returned", dInst (cs1 ++ cs2) (gs1 ++ shG cs1.length gs2)]
theorem DpAll.app {K : PySem.W.Frag} {H : Hp} : ∀ {vs ws : List V} {ds es : List PyData}, DpAll K H vs ds → DpAll K H ws es → DpAll K H (vs ++ ws) (ds ++ es)
  | _, _, _, _, .nil, h => h
  | _, _, _, _, .cons h t, h' => .cons h (DpAll.app t h')
section
variable {P : Program} {w : World} {K : PySem.W.Frag} {mg : Str → Option Value} {base : Heap}
/-- the lists of the second, moved -/
theorem shift_turn {H : Hp} {pA D3 : Addr} {ps : List Int} {n : Nat} (nD3 : H D3 = none) (hl : ps.length ≤ 6) {k : Nat} {v : V} {H6 : Hp} (s6 : Same H H6) (e6 : H6 D3 = some (.lst (((shP n ps).take k).map V.int))) (hv : (ps.map V.int)[k]? = some v) :
    ∃ p : Int, v = .int p ∧ (((shP n ps).take k).map V.int).length < sizeLine ∧ Same H (upd H6 D3 (.lst (((shP n ps).take k).map V.int ++ [.int (p + (n : Int))]))) ∧ (upd H6 D3 (.lst (((shP n ps).take k).map V.int ++ [.int (p + (n : Int))]))) D3 = some (.lst (((shP n ps).take (k + 1)).map V.int)) := by
  rw [List.getElem?_map] at hv
  obtain ⟨p, hp, rfl⟩ := Option.map_eq_some_iff.mp hv
  have hlp : (shP n ps).length = ps.length := by unfold shP; rw [List.length_map]
  refine ⟨p, rfl, ?_, samePut s6 nD3, ?_⟩
  · rw [List.length_map, List.length_take]; exact small (by omega)
  · have hm : (shP n ps)[k]? = some (p + (n : Int)) := by unfold shP; rw [List.getElem?_map, hp]; rfl
    rw [upd_same, take_snoc hm, List.map_append]; rfl
def spJn (K : PySem.W.Frag) (C : Addr) : Sp := fun vs H Q E => ∃ (i1 i2 : Addr) (cs1 : List Int) (gs1 : List Gp) (cs2 : List Int) (gs2 : List Gp), vs = [.ref i1, .ref i2] ∧ Dp K H (.ref i1) (dInst cs1 gs1) ∧ Dp K H (.ref i2) (dInst cs2 gs2) ∧ InsOk cs1 gs1 ∧ InsOk cs2 gs2 ∧
  ∀ H', Same H H' → (cs1.length + cs2.length > 6 → ∀ d, H' d = none → E (.ref C) (some d) (upd H' d (.xd [("limit", .int 6)]))) ∧
    (¬ (cs1.length + cs2.length > 6) → gs1.length + gs2.length > 10 → ∀ d, H' d = none → E (.ref C) (some d) (upd H' d (.xd [("limit", .int 10)]))) ∧
    (¬ (cs1.length + cs2.length > 6) → ¬ (gs1.length + gs2.length > 10) → ∀ p, Dp K H' (.ref p) (dInst (cs1 ++ cs2) (gs1 ++ shG cs1.length gs2)) → Q (.ref p) H')
set_option maxHeartbeats 4000000 in
theorem ok_Jn {f : Addr} {fd : FuncData} (F : Fun K "join_instances" "join_instances" sJn f fd)
    {cTM : Addr} {fiTM : Addr} {fdiTM : FuncData} (gTM : mg "TooMany" = some (.ref cTM)) (XTM : XF K cTM fiTM "limit") (GiTM : FnOk P w K mg base CX0 1 fiTM fdiTM ["self", "limit"] (spI1 cTM "limit")) (biTM : Binds K fdiTM ["self", "limit"] [])
    {uPOSTS : Value} (vPOSTS : mg "POSTS" = some uPOSTS) (rPOSTS : RelV (.int 6) uPOSTS)
    {uGROUPS : Value} (vGROUPS : mg "GROUPS" = some uGROUPS) (rGROUPS : RelV (.int 10) uGROUPS)
    (m_len : mg "len" = none) (m_tuple : mg "tuple" = none) :
    FnOk P w K mg base (L2.CX P w) 3 f fd ["first", "second"] (spJn K cTM) := by
  refine F.okX scJn (fun vs H Q E h => ?_) (fun cdv A outer s H vs Q E hr h => ?_)
  · obtain ⟨i1, i2, cs1, gs1, cs2, gs2, rfl, _⟩ := h; rfl
  · obtain ⟨i1, i2, cs1, gs1, cs2, gs2, rfl, hI1, hI2, ok1, ok2, q⟩ := h
    refine ⟨_, pss_cons (ps_if (pt_cmpR op_gt (pe_op op_add (pe_callB call_lenQ (by rfl) m_len PySem.boot_len (pa_cons (pe_ix ix_tup (pv 0) (pe_int) (fun _ _ => rfl)) pa_nil)) (pe_callB call_lenQ (by rfl) m_len PySem.boot_len (pa_cons (pe_ix ix_tup (pv 1) (pe_int) (fun _ _ => rfl)) pa_nil))) (pe_glob (by rfl) vPOSTS rPOSTS) (nomark _))
        (pss_one (ps_raise rfl (takes_of rfl rfl rfl rfl) (pmk_oex XTM.T XTM.iC XTM.tI GiTM (hr.mono (by omega)) biTM .nil pass0 (by rfl) gTM (pa_cons (pe_glob (by rfl) vPOSTS rPOSTS) pa_nil)))) pss_nil)
      (pss_cons (ps_if (pt_cmpR op_gt (pe_op op_add (pe_callB call_lenQ (by rfl) m_len PySem.boot_len (pa_cons (pe_ix ix_tup (pv 0) (pe_int) (fun _ _ => rfl)) pa_nil)) (pe_callB call_lenQ (by rfl) m_len PySem.boot_len (pa_cons (pe_ix ix_tup (pv 1) (pe_int) (fun _ _ => rfl)) pa_nil))) (pe_glob (by rfl) vGROUPS rGROUPS) (nomark _))
        (pss_one (ps_raise rfl (takes_of rfl rfl rfl rfl) (pmk_oex XTM.T XTM.iC XTM.tI GiTM (hr.mono (by omega)) biTM .nil pass0 (by rfl) gTM (pa_cons (pe_glob (by rfl) vGROUPS rGROUPS) pa_nil)))) pss_nil)
      (pss_cons (ps_set (i := 2) scJn.nd rfl (.inr rfl) (pe_callB call_lenQ (by rfl) m_len PySem.boot_len (pa_cons (pe_ix ix_tup (pv 0) (pe_int) (fun _ _ => rfl)) pa_nil)))
      (pss_cons (ps_setLc (i := 3) (own := [("posts", 4), ("count", 5)]) (g := gTup K 2 (gCons (gName 4) (gCons (gName 5) gNil))) (tt := tYes) (te := tTup (tCons (tCB (rTupQ K) (tCons (tLc (iTup K (tVar 4)) (gName 6) (tYes) (tOp (rI0 fun i j => .int (i + j)) (tVar 6) (tVar 2)) [6]) tNil)) (tCons (tVar 5) tNil))) rfl scJn.nd rfl rfl (sw_true rfl rfl rfl (by decide +kernel)) (pi_tup (pe_ix ix_tup (pv 1) (pe_int) (fun _ _ => rfl))) (blkOk_by (N := ["first", "second", "shift", "groups", "posts", "count", "post"]) (sc := defScope sJn) (by decide +kernel)) (fun _ _ _ _ _ => pg_tup rfl (pgs_cons (pg_name (i := 4) scJn.nd rfl (.inl rfl)) (pgs_cons (pg_name (i := 5) scJn.nd rfl (.inl rfl)) pgs_nil))) (fun _ _ _ _ _ => pts_nil) (fun _ _ _ _ _ => pe_tup (pa_cons (pe_callTy call_tupQ (by rfl) m_tuple (by decide +kernel) (pa_cons (pe_lc (own := [("post", 6)]) (g := gName 6) (tt := tYes) (te := tOp (rI0 fun i j => .int (i + j)) (tVar 6) (tVar 2)) rfl scJn.nd (pi_tup (pv 4)) (blkOk_by (N := ["first", "second", "shift", "groups", "posts", "count", "post"]) (sc := { kind := .function, names := [(".0", .local), ("posts", .local), ("count", .local), ("tuple", .globalImplicit), ("shift", .cell)], isGenerator := false, isCoroutine := false }) (by decide +kernel)) (fun _ _ _ _ _ => pg_name (i := 6) scJn.nd rfl (.inl rfl)) (fun _ _ _ _ _ => pts_nil) (fun _ _ _ _ _ => pe_op op_add (pv 6) (pv 2))) pa_nil)) (pa_cons (pv 5) pa_nil))))
      (pss_one (ps_ret (pe_tup (pa_cons (pe_op op_catA (pe_ix ix_tup (pv 0) (pe_int) (fun _ _ => rfl)) (pe_ix ix_tup (pv 1) (pe_int) (fun _ _ => rfl))) (pa_cons (pe_op op_catA (pe_ix ix_tup (pv 0) (pe_int) (fun _ _ => rfl)) (pe_callTy call_tupQ (by rfl) m_tuple (by decide +kernel) (pa_cons (pv 3) pa_nil))) pa_nil)))))))), ?_⟩
    obtain ⟨_, c1, g1, xs1, e, hi1, hc1, hgt1, hgs1⟩ := inst_open hI1
    cases e
    obtain ⟨_, c2, g2, xs2, e, hi2, hc2, hgt2, hgs2⟩ := inst_open hI2
    cases e
    have lx1 := DpAll.len hgs1
    have lx2 := DpAll.len hgs2
    rw [List.length_map] at lx1 lx2
    refine ⟨.ref i1, rfl, i1, _, 0, .ref c1, rfl, rfl, hi1, atI_nat (j := 0) rfl, c1, _, rfl, .inr hc1, .ref i2, rfl, i2, _, 0, .ref c2, rfl, rfl, hi2, atI_nat (j := 0) rfl, c2, _, rfl, .inr hc2, _, _, rfl, rfl, _, _, rfl, rfl, _, rfl, ite2 (fun h1 => ?_) (fun h1 => ?_)⟩
    · have h1 := of_decide_eq_true h1
      rw [List.length_map, List.length_map] at h1
      exact mkO1 fun d nd => (q H (Same.refl _)).1 (by omega) d nd
    have hn6 : ¬ (cs1.length + cs2.length > 6) := fun z => h1 (decide_eq_true (by rw [List.length_map, List.length_map]; omega))
    refine ⟨.ref i1, rfl, i1, _, 1, .ref g1, rfl, rfl, hi1, atI_nat (j := 1) rfl, g1, _, rfl, .inr hgt1, .ref i2, rfl, i2, _, 1, .ref g2, rfl, rfl, hi2, atI_nat (j := 1) rfl, g2, _, rfl, .inr hgt2, _, _, rfl, rfl, _, _, rfl, rfl, _, rfl, ite2 (fun h2 => ?_) (fun h2 => ?_)⟩
    · have h2 := of_decide_eq_true h2
      exact mkO1 fun d nd => (q H (Same.refl _)).2.1 hn6 (by omega) d nd
    have hn10 : ¬ (gs1.length + gs2.length > 10) := fun z => h2 (decide_eq_true (by omega))
    refine ⟨.ref i1, rfl, i1, _, 0, .ref c1, rfl, rfl, hi1, atI_nat (j := 0) rfl, c1, _, rfl, .inr hc1, ?_⟩
    rw [List.length_map]
    refine ⟨.ref i2, rfl, i2, _, 1, .ref g2, rfl, rfl, hi2, atI_nat (j := 1) rfl, g2, rfl, ⟨_, hgt2⟩, fun D2 nD2 => lc_it (walk_tup (K := K) (a := g2) (xs := xs2))
      (fun j H4 => Same H H4 ∧ ∃ vs, H4 D2 = some (.lst vs) ∧ vs.length = j ∧ DpAll K H4 vs (((shG cs1.length gs2).take j).map dGrp)) ⟨sameNew nD2, [], upd_same, rfl, .nil⟩ (fun j H4 _ h => (TupK.of h.1).sq hgt2) ?_ ?_⟩
    · rintro j v H4 H5 hlt ⟨s4, vs, e4, hvl, hvs⟩ ⟨rfl, hv⟩
      obtain ⟨d, hd, hvd⟩ := DpAll.at hgs2 hv
      rw [List.getElem?_map] at hd
      obtain ⟨g, hg, rfl⟩ := Option.map_eq_some_iff.mp hd
      obtain ⟨gA, pA, rfl, hG, hP⟩ := grp_ref ((TupK.of s4).dp _ _ (to_dGrp g) hvd)
      have gl := (ok2.gp g (List.mem_of_getElem? hg)).1
      have hjl : j < gs2.length := (List.getElem?_eq_some_iff.mp hg).1
      refine ⟨gA, _, rfl, hG, rfl, _, _, rfl, _, _, rfl, rfl, rfl, .ref pA, rfl, pA, rfl, ⟨_, hP⟩, fun D3 nD3 => lc_it (walk_tup (K := K) (a := pA) (xs := g.1.map V.int))
        (fun k H6 => Same H5 H6 ∧ H6 D3 = some (.lst (((shP cs1.length g.1).take k).map V.int))) ⟨sameNew nD3, upd_same⟩ (fun k H6 _ h => (TupK.of h.1).sq hP) ?_ ?_⟩
      · rintro k v H6 H7 hltk ⟨s6, e6⟩ ⟨rfl, hv⟩
        obtain ⟨p, rfl, hln, sP, eP⟩ := shift_turn nD3 gl s6 e6 hv (pA := pA)
        exact ⟨rfl, .int p, rfl, .int (cs1.length : Nat), rfl, _, _, rfl, rfl, _, e6, hln, sP, eP⟩
      rintro H6 ⟨s6, e6⟩
      rw [List.length_map, List.take_of_length_le (by unfold shP; rw [List.length_map]; exact Nat.le_refl _)] at e6
      refine ⟨D3, _, rfl, .inl ⟨SqL.of e6, fun Pt nPt => ⟨.int g.2, rfl, (show (2 : Nat) ≤ sizeLine by decide), fun T nT => ?_⟩⟩⟩
      have sP := sameNew (o := .tup ((shP cs1.length g.1).map V.int)) nPt
      have sT := sameNew (o := .tup [.ref Pt, .int g.2]) nT
      have sA := (s6.trans sP).trans sT
      have e5 := sA _ _ e4
      have tkp : TupK _ (upd (upd (upd H6 Pt (.tup ((shP cs1.length g.1).map V.int))) T (.tup [.ref Pt, .int g.2])) D2 (.lst (vs ++ [.ref T]))) := TupK.put e5
      refine ⟨vs, e5, by rw [hvl]; exact small (by omega), samePut (s4.trans sA) nD2, vs ++ [.ref T], upd_same, by simp [hvl], ?_⟩
      have hm : (shG cs1.length gs2)[j]? = some (shP cs1.length g.1, g.2) := by unfold shG; rw [List.getElem?_map, hg]; rfl
      rw [take_snoc hm, List.map_append]
      exact DpAll.snoc (((TupK.of sA).trans tkp).dpAll _ _ (to_grps _) hvs) (.tup (tkp.sq (SqT.of upd_same)) (.cons (dI_sq (((TupK.of sT).trans tkp).sq (SqT.of upd_same))) (.cons (.int _) .nil)))
    rintro H4 ⟨s4, vs, e4, hvl, hvs⟩
    have hfull : (shG cs1.length gs2).take xs2.length = shG cs1.length gs2 := by
      rw [lx2]; unfold shG; exact List.take_of_length_le (by rw [List.length_map]; exact Nat.le_refl _)
    rw [hfull] at hvs
    have tk4 := TupK.of s4
    refine ⟨.ref i1, rfl, i1, _, 0, .ref c1, rfl, rfl, tk4.sq hi1, atI_nat (j := 0) rfl, .ref i2, rfl, i2, _, 0, .ref c2, rfl, rfl, tk4.sq hi2, atI_nat (j := 0) rfl, ?_⟩
    refine cat_eq (tk4.sq hc1) (tk4.sq hc2) (by rw [List.length_map, List.length_map]; exact Nat.le_of_lt (small (n := cs1.length + cs2.length) (by omega))) (fun H5 pc s5 hpc => ?_)
    have tk5 := TupK.of (s4.trans s5)
    refine ⟨.ref i1, rfl, i1, _, 1, .ref g1, rfl, rfl, tk5.sq hi1, atI_nat (j := 1) rfl, .ref D2, rfl, D2, _, rfl, .inl ⟨SqL.of (s5 _ _ e4), fun Gt nGt => ?_⟩⟩
    have sG := sameNew (o := .tup vs) nGt
    have s6 := s5.trans sG
    refine cat_eq ((TupK.of (s4.trans s6)).sq hgt1) (SqT.of upd_same) (by rw [lx1, hvl, lx2]; exact Nat.le_of_lt (small (n := gs1.length + gs2.length) (by omega))) (fun H7 pg s7 hpg => ⟨(show (2 : Nat) ≤ sizeLine by decide), fun R nR => ?_⟩)
    have sR := sameNew (o := .tup [.ref pc, .ref pg]) nR
    have s4R := (s6.trans s7).trans sR
    have tkR := TupK.of s4R
    refine (q _ (s4.trans s4R)).2.2 hn6 hn10 R (.tup (SqT.of upd_same) (.cons (dI_sq ?_) (.cons (.tup ((TupK.of sR).sq hpg) ?_) .nil)))
    · rw [List.map_append]
      exact (TupK.of ((sG.trans s7).trans sR)).sq hpc
    · rw [List.map_append]
      exact DpAll.app ((TupK.of (s4.trans s4R)).dpAll _ _ (to_grps _) hgs1) (tkR.dpAll _ _ (to_grps _) hvs)
def spLJ (K : PySem.W.Frag) : Sp := fun vs H Q _ => ∃ (i1 i2 : Addr) (cs1 : List Int) (gs1 : List Gp) (cs2 : List Int) (gs2 : List Gp), vs = [.ref i1, .ref i2] ∧ Dp K H (.ref i1) (dInst cs1 gs1) ∧ Dp K H (.ref i2) (dInst cs2 gs2) ∧ InsOk cs1 gs1 ∧ InsOk cs2 gs2 ∧
  ∀ H' p, Same H H' → Dp K H' (.ref p) (joinD cs1 gs1 cs2 gs2) → Q (.ref p) H'
set_option maxHeartbeats 4000000 in
theorem ok_LJd {f : Addr} {fd : FuncData} (F : Fun K "_law_joined_due" "_law_joined_due" sLJd f fd)
    (m_len : mg "len" = none) (m_list : mg "list" = none) (m_tuple : mg "tuple" = none) :
    FnOk P w K mg base CX0 1 f fd ["_law_first", "_law_second"] (spLJ K) := by
  refine F.ok scLJd (fun vs H Q E h => ?_) (fun cdv A outer s H vs Q E hr h => ?_)
  · obtain ⟨i1, i2, cs1, gs1, cs2, gs2, rfl, _⟩ := h; rfl
  · obtain ⟨i1, i2, cs1, gs1, cs2, gs2, rfl, hI1, hI2, ok1, ok2, q⟩ := h
    refine ⟨_, pss_cons (ps_if (pt_cmpR op_gt (pe_op op_add (pe_callB call_lenQ (by rfl) m_len PySem.boot_len (pa_cons (pe_ix ix_tup (pv 0) (pe_int) (fun _ _ => rfl)) pa_nil)) (pe_callB call_lenQ (by rfl) m_len PySem.boot_len (pa_cons (pe_ix ix_tup (pv 1) (pe_int) (fun _ _ => rfl)) pa_nil))) (pe_int) (nomark _))
        (pss_one (ps_ret (pe_lst (pa_cons (pe_str) (pa_cons (pe_int) (pa_cons (pe_bl) pa_nil)))))) pss_nil)
      (pss_cons (ps_if (pt_cmpR op_gt (pe_op op_add (pe_callB call_lenQ (by rfl) m_len PySem.boot_len (pa_cons (pe_ix ix_tup (pv 0) (pe_int) (fun _ _ => rfl)) pa_nil)) (pe_callB call_lenQ (by rfl) m_len PySem.boot_len (pa_cons (pe_ix ix_tup (pv 1) (pe_int) (fun _ _ => rfl)) pa_nil))) (pe_int) (nomark _))
        (pss_one (ps_ret (pe_lst (pa_cons (pe_str) (pa_cons (pe_int) (pa_cons (pe_bl) pa_nil)))))) pss_nil)
      (pss_cons (ps_set (i := 2) scLJd.nd rfl (.inl rfl) (pe_callTy call_list_of (by rfl) m_list (by decide +kernel) (pa_cons (pe_ix ix_tup (pv 0) (pe_int) (fun _ _ => rfl)) pa_nil)))
      (pss_cons (ps_for PassesOwn.never rfl (pi_tup (pe_ix ix_tup (pv 1) (pe_int) (fun _ _ => rfl))) (pg_tup rfl (pgs_cons (pg_name (i := 3) scLJd.nd rfl (.inl rfl)) (pgs_cons (pg_name (i := 4) scLJd.nd rfl (.inl rfl)) pgs_nil)))
        (pss_one (ps_expr (pe_bm PySem.F.plainAttrs_list PySem.F.slot_list_append PySem.F.type_list_append mt_append (pv 2) (pa_cons (pe_tup (pa_cons (pe_callTy call_tupQ (by rfl) m_tuple (by decide +kernel) (pa_cons (pe_lc (own := [("_law_post", 5)]) (g := gName 5) (tt := tYes) (te := tOp (rI0 fun i j => .int (i + j)) (tCB (rLenQ K) (tCons (tOp (rIxT K) (tVar 0) (tC (.int 0))) tNil)) (tVar 5)) rfl scLJd.nd (pi_tup (pv 3)) (blkOk_by (N := ["_law_first", "_law_second", "_law_rows", "_law_wish", "_law_count", "_law_post"]) (sc := defScope sLJd) (by decide +kernel)) (fun _ _ _ _ _ => pg_name (i := 5) scLJd.nd rfl (.inl rfl)) (fun _ _ _ _ _ => pts_nil) (fun _ _ _ _ _ => pe_op op_add (pe_callB call_lenQ (by rfl) m_len PySem.boot_len (pa_cons (pe_ix ix_tup (pv 0) (pe_int) (fun _ _ => rfl)) pa_nil)) (pv 5))) pa_nil)) (pa_cons (pv 4) pa_nil))) pa_nil)))))
      (pss_one (ps_ret (pe_lst (pa_cons (pe_str) (pa_cons (pe_tup (pa_cons (pe_op op_catA (pe_ix ix_tup (pv 0) (pe_int) (fun _ _ => rfl)) (pe_ix ix_tup (pv 1) (pe_int) (fun _ _ => rfl))) (pa_cons (pe_callTy call_tupQ (by rfl) m_tuple (by decide +kernel) (pa_cons (pv 2) pa_nil)) pa_nil))) pa_nil)))))))), ?_⟩
    obtain ⟨_, c1, g1, xs1, e, hi1, hc1, hgt1, hgs1⟩ := inst_open hI1
    cases e
    obtain ⟨_, c2, g2, xs2, e, hi2, hc2, hgt2, hgs2⟩ := inst_open hI2
    cases e
    have lx1 := DpAll.len hgs1
    have lx2 := DpAll.len hgs2
    rw [List.length_map] at lx1 lx2
    refine ⟨.ref i1, rfl, i1, _, 0, .ref c1, rfl, rfl, hi1, atI_nat (j := 0) rfl, c1, _, rfl, .inr hc1, .ref i2, rfl, i2, _, 0, .ref c2, rfl, rfl, hi2, atI_nat (j := 0) rfl, c2, _, rfl, .inr hc2, _, _, rfl, rfl, _, _, rfl, rfl, _, rfl, ite2 (fun h1 => ?_) (fun h1 => ?_)⟩
    · have h1 := of_decide_eq_true h1
      rw [List.length_map, List.length_map] at h1
      refine ⟨(show (3 : Nat) ≤ sizeLine by decide), fun p np => q _ p (sameNew np) ?_⟩
      unfold joinD
      rw [if_pos (by omega)]
      exact .lst (SqL.of upd_same) (.cons (.str _) (.cons (.int _) (.cons (.bl _) .nil)))
    have hn6 : ¬ (cs1.length + cs2.length > 6) := fun z => h1 (decide_eq_true (by rw [List.length_map, List.length_map]; omega))
    refine ⟨.ref i1, rfl, i1, _, 1, .ref g1, rfl, rfl, hi1, atI_nat (j := 1) rfl, g1, _, rfl, .inr hgt1, .ref i2, rfl, i2, _, 1, .ref g2, rfl, rfl, hi2, atI_nat (j := 1) rfl, g2, _, rfl, .inr hgt2, _, _, rfl, rfl, _, _, rfl, rfl, _, rfl, ite2 (fun h2 => ?_) (fun h2 => ?_)⟩
    · have h2 := of_decide_eq_true h2
      refine ⟨(show (3 : Nat) ≤ sizeLine by decide), fun p np => q _ p (sameNew np) ?_⟩
      unfold joinD
      rw [if_neg hn6, if_pos (by omega)]
      exact .lst (SqL.of upd_same) (.cons (.str _) (.cons (.int _) (.cons (.bl _) .nil)))
    have hn10 : ¬ (gs1.length + gs2.length > 10) := fun z => h2 (decide_eq_true (by omega))
    refine ⟨.ref i1, rfl, i1, _, 1, .ref g1, rfl, rfl, hi1, atI_nat (j := 1) rfl, g1, _, rfl, .inr hgt1, fun D2 nD2 => ?_⟩
    have s0 := sameNew (o := .lst xs1) nD2
    refine ⟨.ref i2, rfl, i2, _, 1, .ref g2, rfl, rfl, (TupK.of s0).sq hi2, atI_nat (j := 1) rfl, g2, rfl, ⟨_, (TupK.of s0).sq hgt2⟩, for_it (walk_tup (K := K) (a := g2) (xs := xs2))
      (fun j σ H4 => ∃ y3 y4 y5, σ = [some (.ref i1), some (.ref i2), some (.ref D2), y3, y4, y5] ∧ Same H H4 ∧ ∃ vs, H4 D2 = some (.lst (xs1 ++ vs)) ∧ vs.length = j ∧ DpAll K H4 vs (((shG cs1.length gs2).take j).map dGrp)) ⟨none, none, none, rfl, s0, [], by rw [List.append_nil]; exact upd_same, rfl, .nil⟩ (fun j σ H4 _ h => by obtain ⟨_, _, _, _, s4, _⟩ := h; exact (TupK.of s4).sq hgt2) ?_ ?_⟩
    · rintro j v σ H4 H5 hlt ⟨y3, y4, y5, rfl, s4, vs, e4, hvl, hvs⟩ ⟨rfl, hv⟩
      obtain ⟨d, hd, hvd⟩ := DpAll.at hgs2 hv
      rw [List.getElem?_map] at hd
      obtain ⟨g, hg, rfl⟩ := Option.map_eq_some_iff.mp hd
      obtain ⟨gA, pA, rfl, hG, hP⟩ := grp_ref ((TupK.of s4).dp _ _ (to_dGrp g) hvd)
      have gl := (ok2.gp g (List.mem_of_getElem? hg)).1
      have hjl : j < gs2.length := (List.getElem?_eq_some_iff.mp hg).1
      refine ⟨gA, _, rfl, hG, rfl, _, _, rfl, _, _, rfl, rfl, .ref D2, rfl, .inl ⟨rfl, _, SqL.of e4⟩, .ref pA, rfl, pA, rfl, ⟨_, hP⟩, fun D3 nD3 => lc_it (walk_tup (K := K) (a := pA) (xs := g.1.map V.int))
        (fun k H6 => Same H5 H6 ∧ H6 D3 = some (.lst (((shP cs1.length g.1).take k).map V.int))) ⟨sameNew nD3, upd_same⟩ (fun k H6 _ h => (TupK.of h.1).sq hP) ?_ ?_⟩
      · rintro k v H6 H7 hltk ⟨s6, e6⟩ ⟨rfl, hv⟩
        obtain ⟨p, rfl, hln, sP, eP⟩ := shift_turn nD3 gl s6 e6 hv (pA := pA)
        have tk6 := TupK.of (s4.trans s6)
        refine ⟨rfl, .ref i1, rfl, i1, _, 0, .ref c1, rfl, rfl, tk6.sq hi1, atI_nat (j := 0) rfl, c1, _, rfl, .inr (tk6.sq hc1), .int p, rfl, _, _, rfl, rfl, _, e6, hln, ?_⟩
        dsimp only
        rw [List.length_map, Int.add_comm]
        exact ⟨sP, eP⟩
      rintro H6 ⟨s6, e6⟩
      rw [List.length_map, List.take_of_length_le (by unfold shP; rw [List.length_map]; exact Nat.le_refl _)] at e6
      refine ⟨D3, _, rfl, .inl ⟨SqL.of e6, fun Pt nPt => ⟨.int g.2, rfl, (show (2 : Nat) ≤ sizeLine by decide), fun T nT => ?_⟩⟩⟩
      have sP := sameNew (o := .tup ((shP cs1.length g.1).map V.int)) nPt
      have sT := sameNew (o := .tup [.ref Pt, .int g.2]) nT
      have sA := (s6.trans sP).trans sT
      have e5 := sA _ _ e4
      have tkp : TupK _ (upd (upd (upd H6 Pt (.tup ((shP cs1.length g.1).map V.int))) T (.tup [.ref Pt, .int g.2])) D2 (.lst (xs1 ++ vs ++ [.ref T]))) := TupK.put e5
      refine ⟨D2, _, _, rfl, rfl, e5, by rw [List.length_append, lx1, hvl]; exact small (by have := ok1.g10; have := ok2.g10; omega), _, _, _, rfl, samePut (s4.trans sA) nD2, vs ++ [.ref T], by rw [upd_same, List.append_assoc], by simp [hvl], ?_⟩
      have hm : (shG cs1.length gs2)[j]? = some (shP cs1.length g.1, g.2) := by unfold shG; rw [List.getElem?_map, hg]; rfl
      rw [take_snoc hm, List.map_append]
      exact DpAll.snoc (((TupK.of sA).trans tkp).dpAll _ _ (to_grps _) hvs) (.tup (tkp.sq (SqT.of upd_same)) (.cons (dI_sq (((TupK.of sT).trans tkp).sq (SqT.of upd_same))) (.cons (.int _) .nil)))
    rintro σ H4 ⟨y3, y4, y5, rfl, s4, vs, e4, hvl, hvs⟩
    have hfull : (shG cs1.length gs2).take xs2.length = shG cs1.length gs2 := by
      rw [lx2]; unfold shG; exact List.take_of_length_le (by rw [List.length_map]; exact Nat.le_refl _)
    rw [hfull] at hvs
    have tk4 := TupK.of s4
    refine ⟨.ref i1, rfl, i1, _, 0, .ref c1, rfl, rfl, tk4.sq hi1, atI_nat (j := 0) rfl, .ref i2, rfl, i2, _, 0, .ref c2, rfl, rfl, tk4.sq hi2, atI_nat (j := 0) rfl, ?_⟩
    refine cat_eq (tk4.sq hc1) (tk4.sq hc2) (by rw [List.length_map, List.length_map]; exact Nat.le_of_lt (small (n := cs1.length + cs2.length) (by omega))) (fun H5 pc s5 hpc => ?_)
    refine ⟨.ref D2, rfl, D2, _, rfl, .inl ⟨SqL.of (s5 _ _ e4), fun Gt nGt => ⟨(show (2 : Nat) ≤ sizeLine by decide), fun R nR => ⟨(show (2 : Nat) ≤ sizeLine by decide), fun p np => ?_⟩⟩⟩⟩
    have sG := sameNew (o := .tup (xs1 ++ vs)) nGt
    have sR := sameNew (o := .tup [.ref pc, .ref Gt]) nR
    have sp := sameNew (o := .lst [.str "returned", .ref R]) np
    have sB := (sG.trans sR).trans sp
    have sA := s4.trans (s5.trans sB)
    refine q _ p sA ?_
    unfold joinD
    rw [if_neg hn6, if_neg hn10]
    refine .lst (SqL.of upd_same) (.cons (.str _) (.cons (.tup ((TupK.of sp).sq (SqT.of upd_same)) (.cons (dI_sq ?_) (.cons (.tup ((TupK.of (sR.trans sp)).sq (SqT.of upd_same)) ?_) .nil))) .nil))
    · rw [List.map_append]
      exact (TupK.of sB).sq hpc
    · rw [List.map_append]
      exact DpAll.app ((TupK.of sA).dpAll _ _ (to_grps _) hgs1) ((TupK.of (s5.trans sB)).dpAll _ _ (to_grps _) hvs)
def tsLJ (K : PySem.W.Frag) (cVE cTG cTM : Addr) (a : Addr) (cls : Value) (d : Option Addr) : TS :=
  tAsg (tLst (tCons (tC (.str "many")) (tCons (tXf a cls d cTM "limit" (tVar 3)) (tCons (tAndV (tCB (rIsX K a cls d) (tCons (tVar 3) (tCons (tC (.ref cVE)) tNil))) (tNotV (tCB (rIsX K a cls d) (tCons (tVar 3) (tCons (tC (.ref cTG)) tNil))))) tNil)))) (gName 2)
set_option maxHeartbeats 2000000 in
theorem ok_LJ {f fJn cVE cTG cTM fiTM : Addr} {fd fdJn : FuncData} (F : Fun K "_law_joined" "_law_joined" sLJ f fd)
    (FJn : Fun K "join_instances" "join_instances" sJn fJn fdJn) (bJn : Binds K fdJn ["first", "second"] []) (gJn : mg "join_instances" = some (.ref fJn)) (GJn : FnOk P w K mg base (L2.CX P w) 3 fJn fdJn ["first", "second"] (spJn K cTM))
    (gTM : mg "TooMany" = some (.ref cTM)) (gVE : mg "VoteError" = some (.ref cVE)) (gTG : mg "TooGreat" = some (.ref cTG)) (ITM : IsC K cTM) (XTM : XF K cTM fiTM "limit")
    (x1 : PySem.W.exmOne K (.ref cTM) (.ref cTM) = some true) (x2 : PySem.W.kitOne K (.ref cTM) (.ref cVE) = some true) (x3 : PySem.W.kitOne K (.ref cTM) (.ref cTG) = some false)
    (m_isinstance : mg "isinstance" = none) :
    FnOk P w K mg base CX0 5 f fd ["_law_first", "_law_second"] (spLJ K) := by
  refine F.ok scLJ (fun vs H Q E h => ?_) (fun cdv A outer s H vs Q E hr h => ?_)
  · obtain ⟨i1, i2, cs1, gs1, cs2, gs2, rfl, _⟩ := h; rfl
  · obtain ⟨i1, i2, cs1, gs1, cs2, gs2, rfl, hI1, hI2, ok1, ok2, q⟩ := h
    refine ⟨_, pss_cons (ps_set (i := 2) scLJ.nd rfl (.inl rfl) pe_non)
      (pss_cons (ps_try_as (i := 3) (tb := fun W => tAsg (tLst (tCons (tC (.str "returned")) (tCons (tCallS (spJn K cTM) (WE W) (tCons (tVar 0) (tCons (tVar 1) tNil))) tNil))) (gName 2)) (ts := tsLJ K cVE cTG cTM) (Wout := fun _ _ _ _ => False) rfl rfl scLJ.nd rfl rfl ⟨rfl, by decide, Or.inl gTM⟩ takes0
        (fun W pn xe tk _ => pss_one (ps_set (i := 2) scLJ.nd rfl (.inl rfl) (pe_lst (pa_cons pe_str (pa_cons (by exact (pe_callS GJn (hr.mono (by omega)) rfl gJn FJn.kp bJn (fun σ => passAt tk σ) (by exact (pa_cons (pv 0) (pa_cons (pv 1) pa_nil))))) pa_nil)))))
        (fun a oe cls d pn hz hf => by
          refine pss_one (ps_set (i := 2) scLJ.nd rfl (.inl rfl) (pe_lst (pa_cons pe_str (pa_cons (pe_xf XTM.rd XTM.no hz hf (pv 3)) (pa_cons (pe_and (pe_callB (call_isX hz hf) (by rfl) m_isinstance (by decide +kernel) (pa_cons (pv 3) (pa_cons (pe_glob (v := .ref cVE) (by rfl) gVE rfl) pa_nil)))
            (pe_one (pe_not (pe_callB (call_isX hz hf) (by rfl) m_isinstance (by decide +kernel) (pa_cons (pv 3) (pa_cons (pe_glob (v := .ref cTG) (by rfl) gTG rfl) pa_nil)))))) pa_nil)))))))
      (pss_one (ps_ret (pv 2)))), ?_⟩
    have many : ∀ (n : Int) (H2 : Hp), Same H H2 → joinD cs1 gs1 cs2 gs2 = .list [.str "many", .int n, .bool true] → ∀ dx, H2 dx = none →
        wAs K (.ref cTM) 3 (tsLJ K cVE cTG cTM) (fun _ _ _ _ => False) { nx := fun σ H' => tRet (tVar 2) { nx := fun _ H' => Q .non H', rt := Q } σ H', rt := Q } (.ref cTM) (some dx) [some (.ref i1), some (.ref i2), some .non, none] (upd H2 dx (.xd [("limit", .int n)])) := by
      intro n H2 s2 hj dx ndx
      refine ⟨true, x1, fun _ e ne => ?_, fun z => nomatch z⟩
      have sx := s2.trans (sameNew (o := .xd [("limit", .int n)]) ndx)
      refine ⟨.ref e, rfl, rfl, rfl, dx, _, _, rfl, upd_same, rfl, ?_⟩
      refine ⟨.ref e, rfl, cTM, .ref cVE, true, rfl, ITM, (fun _ z => by cases z; exact ⟨_, upd_same⟩), rfl, .inl ⟨_, .own _, x2⟩, _, rfl, iteT ?_⟩
      refine ⟨.ref e, rfl, cTM, .ref cTG, false, rfl, ITM, (fun _ z => by cases z; exact ⟨_, upd_same⟩), rfl, .inl ⟨_, .own _, x3⟩, _, rfl, (show (3 : Nat) ≤ sizeLine by decide), fun p np => ?_⟩
      refine ⟨_, rfl, q _ p (sx.trans (sameNew np)) ?_⟩
      rw [hj]
      exact .lst (SqL.of upd_same) (.cons (.str _) (.cons (.int _) (.cons (.bl _) .nil)))
    refine ⟨.ref i1, rfl, .ref i2, rfl, i1, i2, cs1, gs1, cs2, gs2, rfl, hI1, hI2, ok1, ok2, fun H2 s2 => ⟨fun hc d nd => ?_, fun hc1 hc2 d nd => ?_, fun hc1 hc2 p hp => ?_⟩⟩
    · exact many 6 H2 s2 (by unfold joinD; rw [if_pos hc]) d nd
    · exact many 10 H2 s2 (by unfold joinD; rw [if_neg hc1, if_pos hc2]) d nd
    · refine ⟨(show (2 : Nat) ≤ sizeLine by decide), fun L nL => ⟨_, rfl, q _ L (s2.trans (sameNew nL)) ?_⟩⟩
      unfold joinD
      rw [if_neg hc1, if_neg hc2]
      exact .lst (SqL.of upd_same) (.cons (.str _) (.cons ((TupK.new nL).dp _ _ (to_dInst _ _) hp) .nil))
end
end Pv

namespace Pv
open PySem PySem.Spec PyProof.Rows L2
abbrev sLa : Stmt := topS 20
theorem scLa : FnScope ["_law_script", "_law_deck_here", "_law_turn", "_law_instance_here", "_law_order", "_law_back", "_law_kept", "_law_due", "_law_other", "_law_held", "_law_first", "_law_second", "_law_k"] ["_law_script"] (defScope sLa) := ⟨rfl, rfl, rfl, by decide +kernel, rfl, by decide +kernel, by decide +kernel⟩
abbrev BigM : Nat := 10 ^ 29
theorem nat_big {i : Int} (h : -2 ≤ i ∧ i ≤ 10 ^ 12 + 2) : i.natAbs ≤ BigM := by
  have : i.natAbs ≤ 10 ^ 12 + 2 := by omega
  exact Nat.le_trans this (by decide)
theorem fit_ins {cs : List Int} {gs : List Gp} (ok : InsOk cs gs) : Fit BigM 5 20000 (dInst cs gs) := by
  have h6 := ok.c6
  have h10 := ok.g10
  refine fit_dInst ⟨by omega, fun i hi => nat_big (by have := ok.cb i hi; omega)⟩ (by omega) (fun g hg => ?_)
  have := ok.gp g hg
  refine ⟨by omega, fun i hi => nat_big ?_, nat_big (by omega)⟩
  have := this.2.1 i hi
  omega
theorem fit_show {M : Nat} (hM : M < 10 ^ 35) {k W : Nat} {a : PyData} (ha : Fit M k W a) (hk : k ≤ 50) (hW : W ≤ 1000000) : a.showable = true ∧ a.depth ≤ 60 ∧ a.shown.length ≤ sizeLine := by
  obtain ⟨s1, s2⟩ := fit_ok hM ha.ok
  refine ⟨s1, Nat.le_trans ha.dp (by omega), Nat.le_trans s2 (Nat.le_trans ha.wt ?_)⟩
  rw [sizeLine_eq]; omega
theorem iteFF {c : Bool} {A B : Prop} (hc : c = false) (h : B) : if c = true then A else B := by rw [if_neg (by rw [hc]; decide)]; exact h
theorem plainAll_of {ds : List PyData} (h : ∀ d ∈ ds, plain d = true) : plainAll ds = true := by
  induction ds with
  | nil => rfl
  | cons d ds ih => simp [plainAll, h d (by simp), ih (fun e he => h e (by simp [he]))]
theorem depthAll_of {k : Nat} {ds : List PyData} (h : ∀ d ∈ ds, d.depth ≤ k) : PyData.depthAll ds ≤ k := by
  induction ds with
  | nil => simp [PyData.depthAll]
  | cons d ds ih =>
    have h1 := h d (by simp)
    have h2 := ih (fun e he => h e (by simp [he]))
    simp only [PyData.depthAll]; omega
theorem plain_ns {ns : List Int} (h : ns.length ≤ 1000) : plain (dI ns) = true := by
  simp only [dI, plain, List.length_map, Bool.and_eq_true, decide_eq_true_eq]
  exact ⟨h, plainAll_of (by intro d hd; obtain ⟨n, _, rfl⟩ := List.mem_map.mp hd; rfl)⟩
theorem depth_ns (ns : List Int) : (dI ns).depth ≤ 1 := by
  have : PyData.depthAll (ns.map PyData.int) ≤ 0 := depthAll_of (by intro d hd; obtain ⟨n, _, rfl⟩ := List.mem_map.mp hd; simp [PyData.depth])
  simp only [dI, PyData.depth]; omega
theorem plain_grp {g : Gp} (h : g.1.length ≤ 1000) : plain (dGrp g) = true := by
  have := plain_ns h
  simp [dGrp, plain, plainAll, this]
theorem depth_grp (g : Gp) : (dGrp g).depth ≤ 2 := by
  have := depth_ns g.1
  simp only [dGrp, PyData.depth, PyData.depthAll]; omega
theorem plain_inst {cs : List Int} {gs : List Gp} (h1 : cs.length ≤ 1000) (h2 : gs.length ≤ 1000) (h3 : ∀ g ∈ gs, g.1.length ≤ 1000) : plain (dInst cs gs) = true := by
  have a1 := plain_ns h1
  have a2 : plainAll (gs.map dGrp) = true := plainAll_of (by intro d hd; obtain ⟨g, hg, rfl⟩ := List.mem_map.mp hd; exact plain_grp (h3 g hg))
  simp [dInst, plain, plainAll, a1, a2, h2]
theorem depth_inst (cs : List Int) (gs : List Gp) : (dInst cs gs).depth ≤ 4 := by
  have a1 := depth_ns cs
  have a2 : PyData.depthAll (gs.map dGrp) ≤ 2 := depthAll_of (by intro d hd; obtain ⟨g, hg, rfl⟩ := List.mem_map.mp hd; exact depth_grp g)
  simp only [dInst, PyData.depth, PyData.depthAll]; omega
theorem pigeon : ∀ {n : Nat} {l : List Int}, l.Nodup → (∀ x ∈ l, 0 ≤ x ∧ x < (n : Int)) → l.length ≤ n
  | 0, l, _, h => by
    cases l with
    | nil => simp
    | cons x l => have := h x (by simp); omega
  | n + 1, l, hn, h => by
    have ih := pigeon (n := n) (l := l.erase (n : Int)) (hn.erase _) (fun x hx => by
      have h1 := h x (List.mem_of_mem_erase hx)
      have h2 : x ≠ (n : Int) := ((List.Nodup.mem_erase_iff hn).mp hx).1
      omega)
    have h1 := List.length_erase (a := (n : Int)) (l := l)
    split at h1 <;> omega
theorem full_of {n : Nat} {l : List Int} (hn : l.Nodup) (hb : ∀ x ∈ l, 0 ≤ x ∧ x < (n : Int)) (hl : l.length = n) {k : Int} (hk : 0 ≤ k ∧ k < (n : Int)) : k ∈ l := by
  refine Classical.byContradiction fun hc => ?_
  have := pigeon (n := n) (l := k :: l) (List.nodup_cons.mpr ⟨hc, hn⟩) (fun x hx => by
    rcases List.mem_cons.mp hx with rfl | hx
    · exact hk
    · exact hb x hx)
  simp at this
  omega
def backL (ord : List Int) (n : Nat) : List Int := (List.range n).map fun (k : Nat) => (ixOf ord (k : Int) : Int)
theorem back_at {ord : List Int} {n k : Nat} (h : k < n) : (backL ord n)[k]? = some (ixOf ord (k : Int) : Int) := by simp [backL, h]
theorem ixOf_lt {l : List Int} {p : Int} (h : p ∈ l) : ixOf l p < l.length := (List.getElem?_eq_some_iff.mp (ixOf_at h).1).1
theorem relC_back {cs ord : List Int} {n : Nat} (hc : cs.length = n) (ho : ord.length = n) (hf : ∀ k : Int, 0 ≤ k ∧ k < (n : Int) → k ∈ ord) : relC (relC cs ord) (backL ord n) = cs := by
  apply List.ext_getElem?
  intro k
  by_cases hk : k < n
  · have hm := hf (k : Int) (by omega)
    have h1 := (ixOf_at hm).1
    unfold relC at *
    rw [List.getElem?_map, back_at hk, Option.map_some, List.getD_eq_getElem?_getD, Int.toNat_natCast, List.getElem?_map, h1, Option.map_some, Option.getD_some, List.getD_eq_getElem?_getD, Int.toNat_natCast, List.getElem?_eq_getElem (by omega)]
    rfl
  · rw [List.getElem?_eq_none (by simp [relC, backL]; omega), List.getElem?_eq_none (by omega)]
theorem relP_back {ord ps : List Int} {n : Nat} (ho : ord.length = n) (hf : ∀ k : Int, 0 ≤ k ∧ k < (n : Int) → k ∈ ord) (hp : ∀ p ∈ ps, 0 ≤ p ∧ p < (n : Int)) : relP (backL ord n) (relP ord ps) = ps := by
  unfold relP
  rw [List.map_map]
  conv => rhs; rw [← List.map_id ps]
  refine List.map_congr_left fun p hpm => ?_
  have hb := hp p hpm
  have e : (p.toNat : Int) = p := by omega
  have : ixOf (backL ord n) (ixOf ord p : Int) = p.toNat := by
    refine ixOf_eq (by rw [back_at (by omega), e]) (fun m hm z => ?_)
    rw [back_at (by omega)] at z
    have z' : ixOf ord (m : Int) = ixOf ord p := by have := Option.some.inj z; omega
    have h1 := (ixOf_at (hf (m : Int) (by omega))).1
    have h2 := (ixOf_at (hf p hb)).1
    rw [z', h2] at h1
    have := Option.some.inj h1
    omega
  show ((ixOf (backL ord n) (ixOf ord p : Int) : Nat) : Int) = p
  rw [this, e]
theorem relG_back {ord : List Int} {gs : List Gp} {n : Nat} (ho : ord.length = n) (hf : ∀ k : Int, 0 ≤ k ∧ k < (n : Int) → k ∈ ord) (hp : ∀ g ∈ gs, ∀ p ∈ g.1, 0 ≤ p ∧ p < (n : Int)) : relG (backL ord n) (relG ord gs) = gs := by
  unfold relG
  rw [List.map_map]
  conv => rhs; rw [← List.map_id gs]
  refine List.map_congr_left fun g hg => ?_
  show (relP (backL ord n) (relP ord g.1), g.2) = g
  rw [relP_back ho hf (hp g hg)]
theorem plain_list {ds : List PyData} (h1 : ds.length ≤ 1000) (h2 : ∀ d ∈ ds, plain d = true) : plain (.list ds) = true := by
  simp only [plain, Bool.and_eq_true, decide_eq_true_eq]
  exact ⟨h1, plainAll_of h2⟩
theorem join_len {n : Nat} {gs1 gs2 : List Gp} (h1 : ∀ g ∈ gs1, g.1.length ≤ 1000) (h2 : ∀ g ∈ gs2, g.1.length ≤ 1000) : ∀ g ∈ gs1 ++ shG n gs2, g.1.length ≤ 1000 := by
  intro g hg
  rcases List.mem_append.mp hg with hg | hg
  · exact h1 g hg
  · obtain ⟨g', hg', rfl⟩ := List.mem_map.mp hg
    have := h2 g' hg'
    simpa [shP] using this
theorem InsOk.len {cs : List Int} {gs : List Gp} (ok : InsOk cs gs) : ∀ g ∈ gs, g.1.length ≤ 1000 := fun g hg => by have := (ok.gp g hg).1; omega
theorem joinD_ok {cs1 : List Int} {gs1 : List Gp} {cs2 : List Int} {gs2 : List Gp} (ok1 : InsOk cs1 gs1) (ok2 : InsOk cs2 gs2) : plain (joinD cs1 gs1 cs2 gs2) = true ∧ (joinD cs1 gs1 cs2 gs2).depth ≤ 5 := by
  have a1 := ok1.c6
  have a2 := ok2.c6
  have a3 := ok1.g10
  have a4 := ok2.g10
  unfold joinD
  split
  · exact ⟨rfl, by simp [PyData.depth, PyData.depthAll]⟩
  · split
    · exact ⟨rfl, by simp [PyData.depth, PyData.depthAll]⟩
    · refine ⟨plain_list (by simp) ?_, ?_⟩
      · intro d hd
        simp only [List.mem_cons, List.not_mem_nil, or_false] at hd
        rcases hd with rfl | rfl
        · rfl
        · exact plain_inst (by rw [List.length_append]; omega) (by rw [List.length_append]; unfold shG; rw [List.length_map]; omega) (join_len ok1.len ok2.len)
      · have := depth_inst (cs1 ++ cs2) (gs1 ++ shG cs1.length gs2)
        simp only [PyData.depth, PyData.depthAll]; omega
section
variable {P : Program} {w : World} {K : PySem.W.Frag} {mg : Str → Option Value} {base : Heap}
def spLaw (K : PySem.W.Frag) : Sp := fun vs H Q _ => ∃ (a : Addr) (ns : List Int), vs = [.ref a] ∧ SqL K H a (ns.map V.int) ∧ ns.length ≤ 63 ∧ ∀ H', Q (.bl true) H'
theorem fit_keep {cs : List Int} {gs : List Gp} {ord : List Int} (ok : InsOk cs gs) (ho : ord.length ≤ 6) (hb : ∀ x ∈ ord, 0 ≤ x ∧ x < (cs.length : Int)) : (PyData.list [dInst cs gs, dI ord]).showable = true ∧ (PyData.list [dInst cs gs, dI ord]).depth ≤ 60 ∧ (PyData.list [dInst cs gs, dI ord]).shown.length ≤ sizeLine := by
  have h6 := ok.c6
  have f1 := fit_ins ok
  have f2 := fit_dI (M := BigM) (ns := ord) (fun i hi => nat_big (by have := hb i hi; omega))
  have h : Fit BigM 6 30000 (.list [dInst cs gs, dI ord]) := by
    refine Fit.lst ?_ (by decide) ?_
    · intro d hd
      simp only [List.mem_cons, List.not_mem_nil, or_false] at hd
      rcases hd with rfl | rfl
      · exact ⟨f1.ok, by have := f1.dp; omega⟩
      · exact ⟨f2.ok, by have := f2.dp; omega⟩
    · have h1 := f1.wt
      have h2 := f2.wt
      simp only [wtAll]; omega
  exact fit_show (by decide) h (by decide) (by decide)
set_option maxHeartbeats 8000000 in
theorem ok_La {f fSt fDr fIn fMi fLRl fRl fSm fLJ fLJd : Addr} {fd fdSt fdDr fdIn fdMi fdLRl fdRl fdSm fdLJ fdLJd : FuncData} (F : Fun K "law" "law" sLa f fd)
    (FSt : Fun K "_law_deck" "_law_deck" sStart fSt fdSt) (bSt : Binds K fdSt ["_law_script"] []) (gSt : mg "_law_deck" = some (.ref fSt)) (GSt : FnOk P w K mg base CX0 1 fSt fdSt ["_law_script"] (spStart K))
    (FDr : Fun K "_law_next" "_law_next" sDraw fDr fdDr) (bDr : Binds K fdDr ["_law_deck_here", "_law_many"] []) (gDr : mg "_law_next" = some (.ref fDr)) (GDr : FnOk P w K mg base CX0 1 fDr fdDr ["_law_deck_here", "_law_many"] spDraw)
    (FIn : Fun K "_law_instance" "_law_instance" sInst fIn fdIn) (bIn : Binds K fdIn ["_law_deck_here", "_law_posts", "_law_groups", "_law_far"] []) (gIn : mg "_law_instance" = some (.ref fIn)) (GIn : FnOk P w K mg base CX0 4 fIn fdIn ["_law_deck_here", "_law_posts", "_law_groups", "_law_far"] (spInst K))
    (FMi : Fun K "_law_mixed" "_law_mixed" sMix fMi fdMi) (bMi : Binds K fdMi ["_law_deck_here", "_law_items"] []) (gMi : mg "_law_mixed" = some (.ref fMi)) (GMi : FnOk P w K mg base CX0 2 fMi fdMi ["_law_deck_here", "_law_items"] (spMix K))
    (FLRl : Fun K "_law_relabelled" "_law_relabelled" sLRl fLRl fdLRl) (bLRl : Binds K fdLRl ["_law_instance_here", "_law_order"] []) (gLRl : mg "_law_relabelled" = some (.ref fLRl)) (GLRl : FnOk P w K mg base CX0 1 fLRl fdLRl ["_law_instance_here", "_law_order"] (spRel K))
    (FRl : Fun K "relabel_posts" "relabel_posts" sRl fRl fdRl) (bRl : Binds K fdRl ["instance", "order"] []) (gRl : mg "relabel_posts" = some (.ref fRl)) (GRl : FnOk P w K mg base CX0 1 fRl fdRl ["instance", "order"] (spRel K))
    (FSm : Fun K "_law_same" "_law_same" sSame fSm fdSm) (bSm : Binds K fdSm ["_law_found", "_law_due"] []) (gSm : mg "_law_same" = some (.ref fSm)) (GSm : FnOk P w K mg base CX0 6 fSm fdSm ["_law_found", "_law_due"] (spS K 6))
    (FLJ : Fun K "_law_joined" "_law_joined" sLJ fLJ fdLJ) (bLJ : Binds K fdLJ ["_law_first", "_law_second"] []) (gLJ : mg "_law_joined" = some (.ref fLJ)) (GLJ : FnOk P w K mg base CX0 5 fLJ fdLJ ["_law_first", "_law_second"] (spLJ K))
    (FLJd : Fun K "_law_joined_due" "_law_joined_due" sLJd fLJd fdLJd) (bLJd : Binds K fdLJd ["_law_first", "_law_second"] []) (gLJd : mg "_law_joined_due" = some (.ref fLJd)) (GLJd : FnOk P w K mg base CX0 1 fLJd fdLJd ["_law_first", "_law_second"] (spLJ K))
    (m_range : mg "range" = none) (m_len : mg "len" = none) (m_list : mg "list" = none) (m_tuple : mg "tuple" = none) (m_repr : mg "repr" = none) :
    FnG P w K mg base 7 f fd ["_law_script"] (spLaw K) := by
  refine okG F scLa (fun vs H Q E h => ?_) (fun cdv A outer s H vs Q E hgd hr h => ?_)
  · obtain ⟨a, ns, rfl, _⟩ := h; rfl
  · obtain ⟨a, ns, rfl, hS, hn, q⟩ := h
    refine ⟨_, pss_cons (ps_set (i := 1) scLa.nd rfl (.inl rfl) (pe_call GSt (hr.mono (by omega)) (by rfl) gSt FSt.kp bSt .nil pass0 (pa_cons (pv 0) pa_nil)))
      (pss_cons (ps_for PassesOwn.never rfl (pi_range1 (by rfl) m_range (pa_cons (pe_int) pa_nil)) (pg_name (i := 2) scLa.nd rfl (.inl rfl))
        (pss_cons (ps_set (i := 3) scLa.nd rfl (.inl rfl) (pe_call GIn (hr.mono (by omega)) (by rfl) gIn FIn.kp bIn .nil pass0 (pa_cons (pv 1) (pa_cons (pe_int) (pa_cons (pe_int) (pa_cons (pe_call GDr (hr.mono (by omega)) (by rfl) gDr FDr.kp bDr .nil pass0 (pa_cons (pv 1) (pa_cons (pe_int) pa_nil))) pa_nil))))))
        (pss_cons (ps_set (i := 4) scLa.nd rfl (.inr rfl) (pe_callTy call_tupZ (by rfl) m_tuple (by decide +kernel) (pa_cons (pe_call GMi (hr.mono (by omega)) (by rfl) gMi FMi.kp bMi .nil pass0 (pa_cons (pv 1) (pa_cons (pe_listRg rfl (by rfl) m_list (prg_1 (by rfl) m_range (pe_callB call_lenQ (by rfl) m_len PySem.boot_len (pa_cons (pe_ix ix_tup (pv 3) (pe_int) (fun _ _ => rfl)) pa_nil)))) pa_nil))) pa_nil)))
        (pss_cons (ps_set (i := 5) scLa.nd rfl (.inl rfl) (pe_callTy call_tupZ (by rfl) m_tuple (by decide +kernel) (pa_cons (pe_lc (own := [("_law_k", 12)]) (g := gName 12) (tt := tYes) (te := tBT (rIxOf K) (tVar 4) (tCons (tVar 12) tNil)) rfl scLa.nd (pi_range1 (by rfl) m_range (pa_cons (pe_callB call_lenQ (by rfl) m_len PySem.boot_len (pa_cons (pv 4) pa_nil)) pa_nil)) (blkOk_by (N := ["_law_script", "_law_deck_here", "_law_turn", "_law_instance_here", "_law_order", "_law_back", "_law_kept", "_law_due", "_law_other", "_law_held", "_law_first", "_law_second", "_law_k"]) (sc := defScope sLa) (by decide +kernel)) (fun _ _ _ _ _ => pg_name (i := 12) scLa.nd rfl (.inl rfl)) (fun _ _ _ _ _ => pts_nil) (fun _ _ _ _ _ => pe_bmT PySem.F.slot_tuple_index PySem.F.type_tuple_index mt_indexT (pv 4) (pa_cons (pv 12) pa_nil))) pa_nil)))
        (pss_cons (ps_set (i := 6) scLa.nd rfl (.inl rfl) (pe_callB (call_reprQ hgd (hu70 hr)) (by rfl) m_repr (by decide +kernel) (pa_cons (pe_lstS (pa_cons (pv 3) (pa_cons (pv 4) pa_nil))) pa_nil)))
        (pss_cons (ps_set (i := 7) scLa.nd rfl (.inl rfl) (pe_call GLRl (hr.mono (by omega)) (by rfl) gLRl FLRl.kp bLRl .nil pass0 (pa_cons (pv 3) (pa_cons (pv 4) pa_nil))))
        (pss_cons (ps_if (PW.pt (pw_or (pt_not (pt_val (pe_call GSm (hr.mono (by omega)) (by rfl) gSm FSm.kp bSm .nil pass0 (pa_cons (pe_call GRl (hr.mono (by omega)) (by rfl) gRl FRl.kp bRl .nil pass0 (pa_cons (pv 3) (pa_cons (pv 4) pa_nil))) (pa_cons (pv 7) pa_nil))))) (pw_or1 (pt_not (pt_val (pe_call GSm (hr.mono (by omega)) (by rfl) gSm FSm.kp bSm .nil pass0 (pa_cons (pe_call GRl (hr.mono (by omega)) (by rfl) gRl FRl.kp bRl .nil pass0 (pa_cons (pv 7) (pa_cons (pv 5) pa_nil))) (pa_cons (pv 3) pa_nil))))))))
          (pss_one (ps_ret (pe_bl))) pss_nil)
        (pss_cons (ps_set (i := 8) scLa.nd rfl (.inl rfl) (pe_call GIn (hr.mono (by omega)) (by rfl) gIn FIn.kp bIn .nil pass0 (pa_cons (pv 1) (pa_cons (pe_ix ix_list (pe_lst (pa_cons (pe_int) (pa_cons (pe_int) pa_nil))) (pe_call GDr (hr.mono (by omega)) (by rfl) gDr FDr.kp bDr .nil pass0 (pa_cons (pv 1) (pa_cons (pe_int) pa_nil))) (fun _ _ => rfl)) (pa_cons (pe_ix ix_list (pe_lst (pa_cons (pe_int) (pa_cons (pe_int) pa_nil))) (pe_call GDr (hr.mono (by omega)) (by rfl) gDr FDr.kp bDr .nil pass0 (pa_cons (pv 1) (pa_cons (pe_int) pa_nil))) (fun _ _ => rfl)) (pa_cons (pe_call GDr (hr.mono (by omega)) (by rfl) gDr FDr.kp bDr .nil pass0 (pa_cons (pv 1) (pa_cons (pe_int) pa_nil))) pa_nil))))))
        (pss_cons (ps_set (i := 9) scLa.nd rfl (.inl rfl) (pe_callB (call_reprQ hgd (hu70 hr)) (by rfl) m_repr (by decide +kernel) (pa_cons (pv 8) pa_nil)))
        (pss_cons (ps_for PassesOwn.never rfl (pi_list (pe_lst (pa_cons (pe_tup (pa_cons (pv 3) (pa_cons (pv 8) pa_nil))) (pa_cons (pe_tup (pa_cons (pv 8) (pa_cons (pv 3) pa_nil))) (pa_cons (pe_tup (pa_cons (pv 8) (pa_cons (pv 8) pa_nil))) pa_nil))))) (pg_tup rfl (pgs_cons (pg_name (i := 10) scLa.nd rfl (.inl rfl)) (pgs_cons (pg_name (i := 11) scLa.nd rfl (.inl rfl)) pgs_nil)))
          (pss_one (ps_if (pt_not (pt_val (pe_call GSm (hr.mono (by omega)) (by rfl) gSm FSm.kp bSm .nil pass0 (pa_cons (pe_call GLJ (hr.mono (by omega)) (by rfl) gLJ FLJ.kp bLJ .nil pass0 (pa_cons (pv 10) (pa_cons (pv 11) pa_nil))) (pa_cons (pe_call GLJd (hr.mono (by omega)) (by rfl) gLJd FLJd.kp bLJd .nil pass0 (pa_cons (pv 10) (pa_cons (pv 11) pa_nil))) pa_nil)))))
            (pss_one (ps_ret (pe_bl))) pss_nil)))
        (pss_one (ps_if (PW.pt (pw_or (pt_cmpR op_ne (pe_callB (call_reprQ hgd (hu70 hr)) (by rfl) m_repr (by decide +kernel) (pa_cons (pe_lstS (pa_cons (pv 3) (pa_cons (pv 4) pa_nil))) pa_nil)) (pv 6) (nomark _)) (pw_or1 (pt_cmpR op_ne (pe_callB (call_reprQ hgd (hu70 hr)) (by rfl) m_repr (by decide +kernel) (pa_cons (pv 8) pa_nil)) (pv 9) (nomark _)))))
          (pss_one (ps_ret (pe_bl))) pss_nil))))))))))))
      (pss_one (ps_ret (pe_bl)))), ?_⟩
    refine ⟨.ref a, rfl, a, ns, rfl, hS, hn, fun H1 st c r s1 D1 => ?_⟩
    refine ⟨6, rfl, by decide, by decide, for_it (walk_range (lo := 0) (n := (6 : Int).toNat))
      (fun i σ H2 => ∃ (y2 y3 y4 y5 y6 y7 y8 y9 y10 y11 : Option V) (t2 : Nat), σ = [some (.ref a), some (.ref st), y2, y3, y4, y5, y6, y7, y8, y9, y10, y11, none] ∧ DS H2 st c r t2 ∧ t2 ≤ 2000 * i)
      ⟨none, none, none, none, none, none, none, none, none, none, 0, rfl, D1, by omega⟩ (fun _ _ _ _ _ => trivial) ?_ (fun σ H2 _ => q _)⟩
    rintro i v σ H2 H2' hlt ⟨y2, y3, y4, y5, y6, y7, y8, y9, y10, y11, t2, rfl, d2, ht2⟩ ⟨rfl, rfl⟩
    have hi6 : i < 6 := hlt
    refine ⟨.ref st, rfl, .ref st, rfl, st, c, r, t2, _, rfl, d2, by omega, by decide, by decide, fun H3 far h30 h31 D3 X3 => ?_⟩
    refine ⟨st, c, r, t2 + 1, 6, 10, far, rfl, D3, by omega, ⟨by decide, by decide⟩, by decide, by decide, fun H4 I t4 cs gs D4 ht4 X4 hI ok _ => ?_⟩
    have h6 := ok.c6
    have h10 := ok.g10
    have hc1 := ok.c1
    obtain ⟨_, ca, ga, xs, e, hi, hc, hgt, hgs⟩ := inst_open hI
    cases e
    -- the order
    refine ⟨.ref st, rfl, .ref I, rfl, I, _, 0, .ref ca, rfl, rfl, hi, atI_nat (j := 0) rfl, ca, _, rfl, .inr hc, _, rfl, RgOk.of_le (by omega) (by rw [List.length_map]; omega) (by omega) (by rw [List.length_map]; omega), fun Lr nLr => ?_⟩
    refine ⟨st, c, r, Lr, t4, upTo cs.length, rfl, D4.new nLr, by omega, by rw [upd_same, List.length_map, rgV_upTo], by rw [upTo_len]; omega, fun H5 p5 ord hms hmn hml e5 n1 n2 n3 D5 X5 => ?_⟩
    rw [upTo_len] at hml D5
    have hnd := hmn (upTo_nodup _)
    have hob : ∀ x ∈ ord, 0 ≤ x ∧ x < (cs.length : Int) := fun x hx => upTo_mem (hms x hx)
    have hful : ∀ k : Int, 0 ≤ k ∧ k < (cs.length : Int) → k ∈ ord := fun k hk => full_of hnd hob hml hk
    have rok : RelOk cs gs ord := ⟨by omega, by omega, hob, fun g hg => ⟨(ok.gp g hg).1, fun p hp => hful p ((ok.gp g hg).2.1 p hp)⟩⟩
    refine ⟨p5, _, rfl, SqL.of e5, fun O ob nO hdn => ?_⟩
    have X45 := (Ext.of (sameNew (o := .lst (rgV 0 ((cs.map V.int).length : Nat))) nLr)).trans X5
    have hI5 := (X45.tup D4).dp _ _ (to_dInst _ _) hI
    have hNO : NoD (upd H5 O (.frz ob (.tup (ord.map V.int)))) O (ord.map V.int) := ⟨ob, upd_same, hdn⟩
    have sO := sameNew (o := .frz ob (.tup (ord.map V.int))) nO
    have hI6 := (TupK.of sO).dp _ _ (to_dInst _ _) hI5
    have D6 := D5.same sO
    generalize upd H5 O (.frz ob (.tup (ord.map V.int))) = H6 at hNO sO hI6 D6
    clear hI hi hc hgt hgs hI5 X45 X5 D5 D4 X4 X3 D3 e5
    -- back
    refine ⟨.ref O, rfl, O, _, rfl, .inr hNO.sq, _, rfl, by omega, by rw [List.length_map]; omega, fun D nD => lc_it (walk_range (lo := 0) (n := ((((ord.map V.int).length : Nat) : Int)).toNat))
      (fun j H7 => Same H6 H7 ∧ H7 D = some (.lst (((backL ord cs.length).take j).map V.int))) ⟨sameNew nD, upd_same⟩ (fun _ _ _ _ => trivial) ?_ ?_⟩
    · rintro j v H7 H8 hltj ⟨s7, e7⟩ ⟨rfl, rfl⟩
      rw [List.length_map, Int.toNat_natCast] at hltj
      have hj0 : (0 : Int) + (j : Nat) = ((j : Nat) : Int) := by omega
      dsimp only
      rw [hj0]
      obtain ⟨a1, a2⟩ := ixOf_at (hful (j : Int) (by omega))
      refine ⟨rfl, .ref O, rfl, ⟨O, _, rfl, hNO.same s7⟩, .int (j : Nat), rfl, O, ord, (j : Int), ixOf ord (j : Int), rfl, rfl, (hNO.same s7).sq, a1, a2, _, e7, ?_, samePut s7 nD, ?_⟩
      · have hbl : (backL ord cs.length).length = cs.length := by simp [backL]
        rw [List.length_map, List.length_take]; exact small (by omega)
      · rw [upd_same, take_snoc (back_at (by omega)), List.map_append]; rfl
    rintro H7 ⟨s7, e7⟩
    rw [List.length_map, Int.toNat_natCast, List.take_of_length_le (by simp [backL]; omega)] at e7
    refine ⟨D, _, rfl, SqL.of e7, fun Bk ob2 nBk hdn2 => ?_⟩
    have sB := sameNew (o := .frz ob2 (.tup ((backL ord cs.length).map V.int))) nBk
    have hNB : NoD (upd H7 Bk (.frz ob2 (.tup ((backL ord cs.length).map V.int)))) Bk ((backL ord cs.length).map V.int) := ⟨ob2, upd_same, hdn2⟩
    have s68 := s7.trans sB
    have hNO8 := hNO.same s68
    have hI8 := (TupK.of s68).dp _ _ (to_dInst _ _) hI6
    have D8 := D6.same s68
    generalize upd H7 Bk (.frz ob2 (.tup ((backL ord cs.length).map V.int))) = H8 at hNB sB s68 hNO8 hI8 D8
    have sK := fit_keep ok (by omega) hob
    -- kept
    refine ⟨.ref I, rfl, .ref O, rfl, (show (2 : Nat) ≤ sizeLine by decide), fun Ka nKa mKa => ?_⟩
    obtain ⟨oa1, oa2, oa3⟩ := D8.off nKa
    have sKa := sameNew (o := .lst [.ref I, .ref O]) nKa
    refine ⟨Ka, .list [dInst cs gs, dI ord], st, r, rfl, .lst upd_same oa1 oa3 mKa (.cons (Dq.of_dp (to_dInst _ _) ((TupK.of sKa).dp _ _ (to_dInst _ _) hI8)) (.cons (Dq.of_dp (to_dI _) (dI_sq (hNO8.same sKa).sq)) .nil)), sK.1, sK.2.1, sK.2.2, ?_⟩
    have hNO9 := hNO8.same sKa
    have hNB9 := hNB.same sKa
    have hI9 := (TupK.of sKa).dp _ _ (to_dInst _ _) hI8
    have D9 := D8.same sKa
    generalize upd H8 Ka (.lst [.ref I, .ref O]) = H9 at sKa hNO9 hNB9 hI9 D9
    clear hNO8 hNB hI8 D8 hNO hI6 D6 s68 s7 sB e7
    -- due
    refine ⟨.ref I, rfl, .ref O, rfl, I, O, cs, gs, ord, rfl, hI9, hNO9, rok, fun H10 du s10 hdu => ?_⟩
    have hI10 := (TupK.of s10).dp _ _ (to_dInst _ _) hI9
    refine ⟨.ref I, rfl, .ref O, rfl, I, O, cs, gs, ord, rfl, hI10, hNO9.same s10, rok, fun H11 p11 s11 hp11 => ⟨.ref du, rfl, ?_⟩⟩
    have lrc : (relC cs ord).length = cs.length := by unfold relC; rw [List.length_map, hml]
    have lrg : (relG ord gs).length = gs.length := by unfold relG; rw [List.length_map]
    have lrp : ∀ g ∈ relG ord gs, g.1.length ≤ 1000 := fun g hg => by
      obtain ⟨g', hg', rfl⟩ := List.mem_map.mp hg
      have := (ok.gp g' hg').1
      simp only [relP, List.length_map]; omega
    refine ⟨_, _, _, rfl, hp11, (TupK.of s11).dp _ _ (to_dInst _ _) hdu, plain_inst (by omega) (by omega) lrp, Nat.le_trans (depth_inst _ _) (by decide), fun H12 s12 => ⟨_, rfl, iteFF rfl ?_⟩⟩
    have s912 := (s10.trans s11).trans s12
    have hdu12 := (TupK.of (s11.trans s12)).dp _ _ (to_dInst _ _) hdu
    have hI12 := (TupK.of s912).dp _ _ (to_dInst _ _) hI9
    have rok2 : RelOk (relC cs ord) (relG ord gs) (backL ord cs.length) := by
      refine ⟨by omega, by simp [backL]; omega, fun x hx => ?_, fun g hg => ?_⟩
      · obtain ⟨k, hk, rfl⟩ := List.mem_map.mp hx
        have hk := List.mem_range.mp hk
        have := ixOf_lt (hful (k : Int) (by omega))
        omega
      · obtain ⟨g', hg', rfl⟩ := List.mem_map.mp hg
        refine ⟨by have := (ok.gp g' hg').1; simp only [relP, List.length_map]; omega, fun p hp => ?_⟩
        obtain ⟨x, hx, rfl⟩ := List.mem_map.mp hp
        have hb := (ok.gp g' hg').2.1 x hx
        have e : (x.toNat : Int) = x := by omega
        have := back_at (ord := ord) (n := cs.length) (k := x.toNat) (by omega)
        rw [e] at this
        exact List.mem_of_getElem? this
    refine ⟨.ref du, rfl, .ref Bk, rfl, du, Bk, _, _, _, rfl, hdu12, hNB9.same s912, rok2, fun H13 p13 s13 hp13 => ⟨.ref I, rfl, ?_⟩⟩
    rw [relC_back rfl hml hful, relG_back hml hful (fun g hg => (ok.gp g hg).2.1)] at hp13
    refine ⟨_, _, _, rfl, hp13, (TupK.of s13).dp _ _ (to_dInst _ _) hI12, plain_inst (by omega) (by omega) ok.len, Nat.le_trans (depth_inst _ _) (by decide), fun H14 s14 => ⟨_, rfl, iteFF rfl ?_⟩⟩
    have s914 := (s912.trans s13).trans s14
    have hI14 := (TupK.of s914).dp _ _ (to_dInst _ _) hI9
    have hNO14 := hNO9.same s914
    have D14 := D9.same s914
    clear hI12 hdu12 hdu hp11 hp13 s912 s914 hI10 hI9 hNO9 hNB9 D9
    -- the other instance
    refine ⟨.ref st, rfl, (show (2 : Nat) ≤ sizeLine by decide), fun L1 nL1 => ⟨.ref st, rfl, st, c, r, _, _, rfl, D14.new nL1, by omega, by decide, by decide, fun H15 d1 h150 h151 D15 X15 => ?_⟩⟩
    have oL1 := D14.off nL1
    have eL1 := X15 L1 _ upd_same oL1.1 oL1.2.2
    obtain ⟨pm, hpm, hpm1, hpm2⟩ : ∃ m : Int, atI [V.int 3, V.int 6] d1 = some (.int m) ∧ 1 ≤ m ∧ m ≤ 6 := by
      obtain h | h : d1 = 0 ∨ d1 = 1 := by omega
      · exact ⟨3, by rw [h]; rfl, by decide, by decide⟩
      · exact ⟨6, by rw [h]; rfl, by decide, by decide⟩
    refine ⟨L1, _, _, _, rfl, rfl, SqL.of eL1, hpm, (show (2 : Nat) ≤ sizeLine by decide), fun L2a nL2 => ⟨.ref st, rfl, st, c, r, _, _, rfl, D15.new nL2, by omega, by decide, by decide, fun H16 d2' h160 h161 D16 X16 => ?_⟩⟩
    have oL2 := D15.off nL2
    have eL2 := X16 L2a _ upd_same oL2.1 oL2.2.2
    obtain ⟨gm, hgm, hgm1, hgm2⟩ : ∃ m : Int, atI [V.int 3, V.int 10] d2' = some (.int m) ∧ 1 ≤ m ∧ m ≤ 10 := by
      obtain h | h : d2' = 0 ∨ d2' = 1 := by omega
      · exact ⟨3, by rw [h]; rfl, by decide, by decide⟩
      · exact ⟨10, by rw [h]; rfl, by decide, by decide⟩
    refine ⟨L2a, _, _, _, rfl, rfl, SqL.of eL2, hgm, .ref st, rfl, st, c, r, _, _, rfl, D16, by omega, by decide, by decide, fun H17 d3 h170 h171 D17 X17 => ?_⟩
    refine ⟨st, c, r, _, pm, gm, d3, rfl, D17, by omega, ⟨hpm1, hpm2⟩, hgm1, hgm2, fun H18 J t18 cs2 gs2 D18 ht18 X18 hJ ok2 _ => ?_⟩
    have X1418 : Ext st r H14 H18 := ((((Ext.of (sameNew nL1)).trans X15).trans (Ext.of (sameNew nL2))).trans X16).trans (X17.trans X18)
    have hI18 := (X1418.tup D14).dp _ _ (to_dInst _ _) hI14
    have hNO18 := hNO14.ext D14 X1418
    clear X1418 X18 X17 X16 X15 hI14 hNO14 D14 D15 D16 D17 eL1 eL2
    have sJ := fit_show (by decide) (fit_ins ok2) (by decide) (by decide)
    refine ⟨.ref J, rfl, J, dInst cs2 gs2, st, r, rfl, Dq.of_dp (to_dInst _ _) hJ, sJ.1, sJ.2.1, sJ.2.2, ?_⟩
    -- the three pairs
    refine ⟨.ref I, rfl, .ref J, rfl, (show (2 : Nat) ≤ sizeLine by decide), fun T1 nT1 => ⟨.ref J, rfl, .ref I, rfl, (show (2 : Nat) ≤ sizeLine by decide), fun T2 nT2 => ⟨.ref J, rfl, .ref J, rfl, (show (2 : Nat) ≤ sizeLine by decide), fun T3 nT3 => ⟨(show (3 : Nat) ≤ sizeLine by decide), fun Lp nLp => ?_⟩⟩⟩⟩
    have sT1 := sameNew (o := .tup [.ref I, .ref J]) nT1
    have sT2 := sameNew (o := .tup [.ref J, .ref I]) nT2
    have sT3 := sameNew (o := .tup [.ref J, .ref J]) nT3
    have sLp := sameNew (o := .lst [.ref T1, .ref T2, .ref T3]) nLp
    have sAll := ((sT1.trans sT2).trans sT3).trans sLp
    have tkA := TupK.of sAll
    have hIV := tkA.dp _ _ (to_dInst _ _) hI18
    have hJV := tkA.dp _ _ (to_dInst _ _) hJ
    have hNOV := hNO18.same sAll
    have DV := D18.same sAll
    have q1 : SqT K (upd (upd (upd (upd H18 T1 (.tup [.ref I, .ref J])) T2 (.tup [.ref J, .ref I])) T3 (.tup [.ref J, .ref J])) Lp (.lst [.ref T1, .ref T2, .ref T3])) T1 [.ref I, .ref J] := (TupK.of ((sT2.trans sT3).trans sLp)).sq (SqT.of upd_same)
    have q2 : SqT K (upd (upd (upd (upd H18 T1 (.tup [.ref I, .ref J])) T2 (.tup [.ref J, .ref I])) T3 (.tup [.ref J, .ref J])) Lp (.lst [.ref T1, .ref T2, .ref T3])) T2 [.ref J, .ref I] := (TupK.of (sT3.trans sLp)).sq (SqT.of upd_same)
    have q3 : SqT K (upd (upd (upd (upd H18 T1 (.tup [.ref I, .ref J])) T2 (.tup [.ref J, .ref I])) T3 (.tup [.ref J, .ref J])) Lp (.lst [.ref T1, .ref T2, .ref T3])) T3 [.ref J, .ref J] := (TupK.of sLp).sq (SqT.of upd_same)
    have eLp : (upd (upd (upd (upd H18 T1 (.tup [.ref I, .ref J])) T2 (.tup [.ref J, .ref I])) T3 (.tup [.ref J, .ref J])) Lp (.lst [.ref T1, .ref T2, .ref T3])) Lp = some (.lst [.ref T1, .ref T2, .ref T3]) := upd_same
    generalize upd (upd (upd (upd H18 T1 (.tup [.ref I, .ref J])) T2 (.tup [.ref J, .ref I])) T3 (.tup [.ref J, .ref J])) Lp (.lst [.ref T1, .ref T2, .ref T3]) = HV at hIV hJV hNOV DV q1 q2 q3 eLp sAll tkA
    have pr : ∀ v, v ∈ [V.ref T1, .ref T2, .ref T3] → ∃ (T i1 i2 : Addr) (csa : List Int) (gsa : List Gp) (csb : List Int) (gsb : List Gp), v = .ref T ∧ SqT K HV T [.ref i1, .ref i2] ∧ Dp K HV (.ref i1) (dInst csa gsa) ∧ Dp K HV (.ref i2) (dInst csb gsb) ∧ InsOk csa gsa ∧ InsOk csb gsb := by
      intro v hv
      simp only [List.mem_cons, List.not_mem_nil, or_false] at hv
      rcases hv with rfl | rfl | rfl
      · exact ⟨T1, I, J, cs, gs, cs2, gs2, rfl, q1, hIV, hJV, ok, ok2⟩
      · exact ⟨T2, J, I, cs2, gs2, cs, gs, rfl, q2, hJV, hIV, ok2, ok⟩
      · exact ⟨T3, J, J, cs2, gs2, cs2, gs2, rfl, q3, hJV, hJV, ok2, ok2⟩
    refine ⟨Lp, rfl, ⟨_, SqL.of eLp⟩, for_it (walk_list (K := K) (a := Lp) (xs := [V.ref T1, .ref T2, .ref T3]))
      (fun j σ Hx => ∃ (z10 z11 : Option V), σ = [some (.ref a), some (.ref st), some (.int (0 + (i : Nat))), some (.ref I), some (.ref O), some (.ref Bk), some (.str (PyData.list [dInst cs gs, dI ord]).shown), some (.ref du), some (.ref J), some (.str (dInst cs2 gs2).shown), z10, z11, none] ∧ Same HV Hx)
      ⟨_, _, rfl, Same.refl _⟩ (fun j σ Hx _ h => by obtain ⟨_, _, _, sx⟩ := h; exact SqL.of (sx _ _ eLp)) ?_ ?_⟩
    · rintro j v σ Hx Hx' hltj ⟨z10, z11, rfl, sx⟩ ⟨rfl, hvj⟩
      obtain ⟨T, i1, i2, csa, gsa, csb, gsb, rfl, qT, hA, hB, oka, okb⟩ := pr v (List.mem_of_getElem? hvj)
      have tkx := TupK.of sx
      refine ⟨T, _, rfl, tkx.sq qT, rfl, _, _, rfl, _, _, rfl, rfl, ?_⟩
      refine ⟨.ref i1, rfl, .ref i2, rfl, i1, i2, csa, gsa, csb, gsb, rfl, tkx.dp _ _ (to_dInst _ _) hA, tkx.dp _ _ (to_dInst _ _) hB, oka, okb, fun Hy p sy hp => ?_⟩
      have tky := TupK.of (sx.trans sy)
      refine ⟨.ref i1, rfl, .ref i2, rfl, i1, i2, csa, gsa, csb, gsb, rfl, tky.dp _ _ (to_dInst _ _) hA, tky.dp _ _ (to_dInst _ _) hB, oka, okb, fun Hz p2 sz hp2 => ?_⟩
      have jo := joinD_ok oka okb
      exact ⟨_, _, _, rfl, same_dp sz jo.1 hp, hp2, jo.1, jo.2, fun Hw sw => ⟨_, rfl, iteF ⟨_, _, rfl, ((sx.trans sy).trans sz).trans sw⟩⟩⟩
    · rintro σ Hx ⟨z10, z11, rfl, sx⟩
      have Dx := DV.same sx
      refine ⟨.ref I, rfl, .ref O, rfl, (show (2 : Nat) ≤ sizeLine by decide), fun Kb nKb mKb => ?_⟩
      obtain ⟨ob1, ob2', ob3⟩ := Dx.off nKb
      have sKb := sameNew (o := .lst [.ref I, .ref O]) nKb
      have sxK := sx.trans sKb
      refine ⟨Kb, .list [dInst cs gs, dI ord], st, r, rfl, .lst upd_same ob1 ob3 mKb (.cons (Dq.of_dp (to_dInst _ _) ((TupK.of sxK).dp _ _ (to_dInst _ _) hIV)) (.cons (Dq.of_dp (to_dI _) (dI_sq (hNOV.same sxK).sq)) .nil)), sK.1, sK.2.1, sK.2.2, _, rfl, rfl, _, rfl, iteFF (by simp) ?_⟩
      refine ⟨.ref J, rfl, J, dInst cs2 gs2, st, r, rfl, Dq.of_dp (to_dInst _ _) ((TupK.of sxK).dp _ _ (to_dInst _ _) hJV), sJ.1, sJ.2.1, sJ.2.2, _, rfl, rfl, _, rfl, ?_⟩
      exact iteFF (by simp) ⟨_, _, _, _, _, _, _, _, _, _, t18, rfl, Dx.same sKb, by omega⟩
end
end Pv

namespace Pv
open PySem PySem.Spec PyProof.Rows L2
/-! what the top has left -/
theorem all_mk {l : PySem.W.OpenLaw} {w : World} {K : PySem.W.Frag} {h : Heap} {mg : Str → Option Value} {fa fRl fJn fSt fDr fOn fSm fMi fAm fIn fLJ fLJd fLRl fLa : Addr} (X : K.In h) (G : h.Ns mainGlobals mg) (hfa : mg "law" = some (.ref fa))
    {odRl anRl odJn anJn odSt anSt odDr anDr odOn anOn odSm anSm odMi anMi odAm anAm odIn anIn odLJ anLJ odLJd anLJd odLRl anLRl odLa anLa : Option Addr} {slRl slJn slSt slDr slOn slSm slMi slAm slIn slLJ slLJd slLRl slLa : Array (Option Value)}
    {ocRl kVRl dcRl pmRl cdRl ctRl ocJn kVJn dcJn pmJn cdJn ctJn ocSt kVSt dcSt pmSt cdSt ctSt ocDr kVDr dcDr pmDr cdDr ctDr ocOn kVOn dcOn pmOn cdOn ctOn ocSm kVSm dcSm pmSm cdSm ctSm ocMi kVMi dcMi pmMi cdMi ctMi ocAm kVAm dcAm pmAm cdAm ctAm ocIn kVIn dcIn pmIn cdIn ctIn ocLJ kVLJ dcLJ pmLJ cdLJ ctLJ ocLJd kVLJd dcLJd pmLJd cdLJd ctLJd ocLRl kVLRl dcLRl pmLRl cdLRl ctLRl ocLa kVLa dcLa pmLa cdLa ctLa : Value}
    (aRl : PySem.W.nsIn K mainGlobals "relabel_posts" = some (some (.ref fRl))) (lRl : K.lookup fRl = some ⟨ocRl, odRl, .func (PySem.W.fnOf "relabel_posts" "relabel_posts" (defArgs sRl) (defBody sRl) (defScope sRl) .none kVRl dcRl pmRl anRl cdRl ctRl), slRl⟩)
      (cRl : PySem.W.codeIn K cdRl "relabel_posts" = true) (kRl : PySem.W.keepIn K (.ref fRl) = true)
    (aJn : PySem.W.nsIn K mainGlobals "join_instances" = some (some (.ref fJn))) (lJn : K.lookup fJn = some ⟨ocJn, odJn, .func (PySem.W.fnOf "join_instances" "join_instances" (defArgs sJn) (defBody sJn) (defScope sJn) .none kVJn dcJn pmJn anJn cdJn ctJn), slJn⟩)
      (cJn : PySem.W.codeIn K cdJn "join_instances" = true) (kJn : PySem.W.keepIn K (.ref fJn) = true)
    (aSt : PySem.W.nsIn K mainGlobals "_law_deck" = some (some (.ref fSt))) (lSt : K.lookup fSt = some ⟨ocSt, odSt, .func (PySem.W.fnOf "_law_deck" "_law_deck" (defArgs sStart) (defBody sStart) (defScope sStart) .none kVSt dcSt pmSt anSt cdSt ctSt), slSt⟩)
      (cSt : PySem.W.codeIn K cdSt "_law_deck" = true) (kSt : PySem.W.keepIn K (.ref fSt) = true)
    (aDr : PySem.W.nsIn K mainGlobals "_law_next" = some (some (.ref fDr))) (lDr : K.lookup fDr = some ⟨ocDr, odDr, .func (PySem.W.fnOf "_law_next" "_law_next" (defArgs sDraw) (defBody sDraw) (defScope sDraw) .none kVDr dcDr pmDr anDr cdDr ctDr), slDr⟩)
      (cDr : PySem.W.codeIn K cdDr "_law_next" = true) (kDr : PySem.W.keepIn K (.ref fDr) = true)
    (aOn : PySem.W.nsIn K mainGlobals "_law_one" = some (some (.ref fOn))) (lOn : K.lookup fOn = some ⟨ocOn, odOn, .func (PySem.W.fnOf "_law_one" "_law_one" (defArgs sOne) (defBody sOne) (defScope sOne) .none kVOn dcOn pmOn anOn cdOn ctOn), slOn⟩)
      (cOn : PySem.W.codeIn K cdOn "_law_one" = true) (kOn : PySem.W.keepIn K (.ref fOn) = true)
    (aSm : PySem.W.nsIn K mainGlobals "_law_same" = some (some (.ref fSm))) (lSm : K.lookup fSm = some ⟨ocSm, odSm, .func (PySem.W.fnOf "_law_same" "_law_same" (defArgs sSame) (defBody sSame) (defScope sSame) .none kVSm dcSm pmSm anSm cdSm ctSm), slSm⟩)
      (cSm : PySem.W.codeIn K cdSm "_law_same" = true) (kSm : PySem.W.keepIn K (.ref fSm) = true)
    (aMi : PySem.W.nsIn K mainGlobals "_law_mixed" = some (some (.ref fMi))) (lMi : K.lookup fMi = some ⟨ocMi, odMi, .func (PySem.W.fnOf "_law_mixed" "_law_mixed" (defArgs sMix) (defBody sMix) (defScope sMix) .none kVMi dcMi pmMi anMi cdMi ctMi), slMi⟩)
      (cMi : PySem.W.codeIn K cdMi "_law_mixed" = true) (kMi : PySem.W.keepIn K (.ref fMi) = true)
    (aAm : PySem.W.nsIn K mainGlobals "_law_amount" = some (some (.ref fAm))) (lAm : K.lookup fAm = some ⟨ocAm, odAm, .func (PySem.W.fnOf "_law_amount" "_law_amount" (defArgs sAmo) (defBody sAmo) (defScope sAmo) .none kVAm dcAm pmAm anAm cdAm ctAm), slAm⟩)
      (cAm : PySem.W.codeIn K cdAm "_law_amount" = true) (kAm : PySem.W.keepIn K (.ref fAm) = true)
    (aIn : PySem.W.nsIn K mainGlobals "_law_instance" = some (some (.ref fIn))) (lIn : K.lookup fIn = some ⟨ocIn, odIn, .func (PySem.W.fnOf "_law_instance" "_law_instance" (defArgs sInst) (defBody sInst) (defScope sInst) .none kVIn dcIn pmIn anIn cdIn ctIn), slIn⟩)
      (cIn : PySem.W.codeIn K cdIn "_law_instance" = true) (kIn : PySem.W.keepIn K (.ref fIn) = true)
    (aLJ : PySem.W.nsIn K mainGlobals "_law_joined" = some (some (.ref fLJ))) (lLJ : K.lookup fLJ = some ⟨ocLJ, odLJ, .func (PySem.W.fnOf "_law_joined" "_law_joined" (defArgs sLJ) (defBody sLJ) (defScope sLJ) .none kVLJ dcLJ pmLJ anLJ cdLJ ctLJ), slLJ⟩)
      (cLJ : PySem.W.codeIn K cdLJ "_law_joined" = true) (kLJ : PySem.W.keepIn K (.ref fLJ) = true)
    (aLJd : PySem.W.nsIn K mainGlobals "_law_joined_due" = some (some (.ref fLJd))) (lLJd : K.lookup fLJd = some ⟨ocLJd, odLJd, .func (PySem.W.fnOf "_law_joined_due" "_law_joined_due" (defArgs sLJd) (defBody sLJd) (defScope sLJd) .none kVLJd dcLJd pmLJd anLJd cdLJd ctLJd), slLJd⟩)
      (cLJd : PySem.W.codeIn K cdLJd "_law_joined_due" = true) (kLJd : PySem.W.keepIn K (.ref fLJd) = true)
    (aLRl : PySem.W.nsIn K mainGlobals "_law_relabelled" = some (some (.ref fLRl))) (lLRl : K.lookup fLRl = some ⟨ocLRl, odLRl, .func (PySem.W.fnOf "_law_relabelled" "_law_relabelled" (defArgs sLRl) (defBody sLRl) (defScope sLRl) .none kVLRl dcLRl pmLRl anLRl cdLRl ctLRl), slLRl⟩)
      (cLRl : PySem.W.codeIn K cdLRl "_law_relabelled" = true) (kLRl : PySem.W.keepIn K (.ref fLRl) = true)
    (aLa : PySem.W.nsIn K mainGlobals "law" = some (some (.ref fLa))) (lLa : K.lookup fLa = some ⟨ocLa, odLa, .func (PySem.W.fnOf "law" "law" (defArgs sLa) (defBody sLa) (defScope sLa) .none kVLa dcLa pmLa anLa cdLa ctLa), slLa⟩)
      (cLa : PySem.W.codeIn K cdLa "law" = true) (kLa : PySem.W.keepIn K (.ref fLa) = true)
    (z0 : PySem.W.nsIn K mainGlobals "isinstance" = some none)
    (z1 : PySem.W.nsIn K mainGlobals "int" = some none)
    (z2 : PySem.W.nsIn K mainGlobals "bool" = some none)
    (z3 : PySem.W.nsIn K mainGlobals "str" = some none)
    (z4 : PySem.W.nsIn K mainGlobals "tuple" = some none)
    (z5 : PySem.W.nsIn K mainGlobals "list" = some none)
    (z6 : PySem.W.nsIn K mainGlobals "len" = some none)
    (z7 : PySem.W.nsIn K mainGlobals "sum" = some none)
    (z8 : PySem.W.nsIn K mainGlobals "abs" = some none)
    (z9 : PySem.W.nsIn K mainGlobals "min" = some none)
    (z10 : PySem.W.nsIn K mainGlobals "max" = some none)
    (z11 : PySem.W.nsIn K mainGlobals "range" = some none)
    (z12 : PySem.W.nsIn K mainGlobals "repr" = some none)
    {uPOSTS : Value} (y0 : PySem.W.nsIn K mainGlobals "POSTS" = some (some uPOSTS)) (rPOSTS : RelV (.int 6) uPOSTS)
    {uGROUPS : Value} (y1 : PySem.W.nsIn K mainGlobals "GROUPS" = some (some uGROUPS)) (rGROUPS : RelV (.int 10) uGROUPS)
    {cVE : Addr} (aCVE : PySem.W.nsIn K mainGlobals "VoteError" = some (some (.ref cVE))) (iCVE : isCB K cVE = true)
    {cTG : Addr} (aCTG : PySem.W.nsIn K mainGlobals "TooGreat" = some (some (.ref cTG))) (iCTG : isCB K cTG = true)
    {cTM : Addr} (aCTM : PySem.W.nsIn K mainGlobals "TooMany" = some (some (.ref cTM))) (iCTM : isCB K cTM = true)
    {nmTM qnTM : Str} {NTM fiTM : Addr} {bsTM bmTM subTM : List Value} {snTM : List Str} {abTM : Bool} {colTM : Option Bool} {ddTM odiTM aniTM : Option Addr} {kaTM kbTM kcTM kdTM keTM : Option Value} {sliTM : Array (Option Value)} {ociTM kViTM dciTM pmiTM cdiTM ctiTM : Value}
    (lXTM : K.lookup cTM = some (excClassObj nmTM qnTM cTM NTM bsTM bmTM true snTM subTM abTM colTM ddTM kaTM kbTM kcTM kdTM keTM "ValueError.__new__")) (vXTM : PySem.HandSPX.refsVE bmTM = true)
    (nXTM : PySem.W.findIn K (.ref cTM) "__init__" = some (some (.ref fiTM))) (lITM : K.lookup fiTM = some ⟨ociTM, odiTM, .func (PySem.W.fnOf "__init__" "TooMany.__init__" (defArgs siTM) (defBody siTM) (defScope siTM) .none kViTM dciTM pmiTM aniTM cdiTM ctiTM), sliTM⟩) (cITM : PySem.W.codeIn K cdiTM "TooMany.__init__" = true) (kITM : PySem.W.keepIn K (.ref fiTM) = true) (bXTM : xf1B K cTM fiTM "limit" = true)
    (x1 : PySem.W.exmOne K (.ref cTM) (.ref cTM) = some true)
    (x2 : PySem.W.kitOne K (.ref cTM) (.ref cVE) = some true)
    (x3 : PySem.W.kitOne K (.ref cTM) (.ref cTG) = some false)
    : ∃ fd : FuncData, (∀ (s : Shared) (v : Value), BindsTo s fd ⟨[v], []⟩ [("_law_script", v)]) ∧ ∀ base : Heap, K.In base → base.Ns mainGlobals mg → FnG l.prog w K mg base 7 fa fd ["_law_script"] (spLaw K) := by
  have e := hfa.symm.trans (PySem.W.mg_of X G aLa)
  cases e
  have FRl := fun_mk (st := sRl) lRl cRl kRl
  have bRl := FRl.binds (ps := ["instance", "order"]) fun _ _ _ _ _ _ us hl => match us, hl with | [_, _], _ => rfl
  have gRl := PySem.W.mg_of X G aRl
  have FJn := fun_mk (st := sJn) lJn cJn kJn
  have bJn := FJn.binds (ps := ["first", "second"]) fun _ _ _ _ _ _ us hl => match us, hl with | [_, _], _ => rfl
  have gJn := PySem.W.mg_of X G aJn
  have FSt := fun_mk (st := sStart) lSt cSt kSt
  have bSt := FSt.binds (ps := ["_law_script"]) fun _ _ _ _ _ _ us hl => match us, hl with | [_], _ => rfl
  have gSt := PySem.W.mg_of X G aSt
  have FDr := fun_mk (st := sDraw) lDr cDr kDr
  have bDr := FDr.binds (ps := ["_law_deck_here", "_law_many"]) fun _ _ _ _ _ _ us hl => match us, hl with | [_, _], _ => rfl
  have gDr := PySem.W.mg_of X G aDr
  have FOn := fun_mk (st := sOne) lOn cOn kOn
  have bOn := FOn.binds (ps := ["_law_deck_here", "_law_items"]) fun _ _ _ _ _ _ us hl => match us, hl with | [_, _], _ => rfl
  have gOn := PySem.W.mg_of X G aOn
  have FSm := fun_mk (st := sSame) lSm cSm kSm
  have bSm := FSm.binds (ps := ["_law_found", "_law_due"]) fun _ _ _ _ _ _ us hl => match us, hl with | [_, _], _ => rfl
  have gSm := PySem.W.mg_of X G aSm
  have FMi := fun_mk (st := sMix) lMi cMi kMi
  have bMi := FMi.binds (ps := ["_law_deck_here", "_law_items"]) fun _ _ _ _ _ _ us hl => match us, hl with | [_, _], _ => rfl
  have gMi := PySem.W.mg_of X G aMi
  have FAm := fun_mk (st := sAmo) lAm cAm kAm
  have bAm := FAm.binds (ps := ["_law_deck_here", "_law_far"]) fun _ _ _ _ _ _ us hl => match us, hl with | [_, _], _ => rfl
  have gAm := PySem.W.mg_of X G aAm
  have FIn := fun_mk (st := sInst) lIn cIn kIn
  have bIn := FIn.binds (ps := ["_law_deck_here", "_law_posts", "_law_groups", "_law_far"]) fun _ _ _ _ _ _ us hl => match us, hl with | [_, _, _, _], _ => rfl
  have gIn := PySem.W.mg_of X G aIn
  have FLJ := fun_mk (st := sLJ) lLJ cLJ kLJ
  have bLJ := FLJ.binds (ps := ["_law_first", "_law_second"]) fun _ _ _ _ _ _ us hl => match us, hl with | [_, _], _ => rfl
  have gLJ := PySem.W.mg_of X G aLJ
  have FLJd := fun_mk (st := sLJd) lLJd cLJd kLJd
  have bLJd := FLJd.binds (ps := ["_law_first", "_law_second"]) fun _ _ _ _ _ _ us hl => match us, hl with | [_, _], _ => rfl
  have gLJd := PySem.W.mg_of X G aLJd
  have FLRl := fun_mk (st := sLRl) lLRl cLRl kLRl
  have bLRl := FLRl.binds (ps := ["_law_instance_here", "_law_order"]) fun _ _ _ _ _ _ us hl => match us, hl with | [_, _], _ => rfl
  have gLRl := PySem.W.mg_of X G aLRl
  have FLa := fun_mk (st := sLa) lLa cLa kLa
  have m_isinstance := PySem.W.mg_none_of X G z0
  have m_int := PySem.W.mg_none_of X G z1
  have m_bool := PySem.W.mg_none_of X G z2
  have m_str := PySem.W.mg_none_of X G z3
  have m_tuple := PySem.W.mg_none_of X G z4
  have m_list := PySem.W.mg_none_of X G z5
  have m_len := PySem.W.mg_none_of X G z6
  have m_sum := PySem.W.mg_none_of X G z7
  have m_abs := PySem.W.mg_none_of X G z8
  have m_min := PySem.W.mg_none_of X G z9
  have m_max := PySem.W.mg_none_of X G z10
  have m_range := PySem.W.mg_none_of X G z11
  have m_repr := PySem.W.mg_none_of X G z12
  have vPOSTS := PySem.W.mg_of X G y0
  have vGROUPS := PySem.W.mg_of X G y1
  have gVE := PySem.W.mg_of X G aCVE
  have IVE := isCB_ok iCVE
  have gTG := PySem.W.mg_of X G aCTG
  have ITG := isCB_ok iCTG
  have gTM := PySem.W.mg_of X G aCTM
  have ITM := isCB_ok iCTM
  have XTM := xf1B_ok bXTM ⟨_, _, _, _, _, _, _, _, _, _, _, _, _, _, _, lXTM, vXTM⟩
  have FiTM := fun_mk (st := siTM) lITM cITM kITM
  have biTM := FiTM.binds (ps := ["self", "limit"]) fun _ _ _ _ _ _ us hl => match us, hl with | [_, _], _ => rfl
  refine ⟨PySem.W.fnOf "law" "law" (defArgs sLa) (defBody sLa) (defScope sLa) .none kVLa dcLa pmLa anLa cdLa ctLa, fun s v => .of_eq rfl, fun base _ _ => ?_⟩
  have GiTM := ok_iTM (P := l.prog) (w := w) (base := base) (mg := mg) FiTM XTM
  have GRl := ok_Rl (P := l.prog) (w := w) (base := base) (mg := mg) FRl     m_tuple
  have GJn := ok_Jn (P := l.prog) (w := w) (base := base) (mg := mg) FJn   gTM XTM GiTM biTM vPOSTS rPOSTS vGROUPS rGROUPS m_len m_tuple
  have GSt := ok_start (P := l.prog) (w := w) (base := base) (mg := mg) (k := 0) FSt m_abs m_int m_len
  have GDr := ok_draw (P := l.prog) (w := w) (base := base) (mg := mg) (k := 0) FDr m_len
  have GOn := ok_one (P := l.prog) (w := w) (base := base) (mg := mg) (k := 0) FOn FDr bDr gDr GDr m_len
  have GMi := ok_mix (P := l.prog) (w := w) (base := base) (mg := mg) (k := 0) FMi FDr bDr gDr GDr m_list m_len
  have GAm := ok_amo (P := l.prog) (w := w) (base := base) (mg := mg) (k := 0) FAm FDr bDr gDr GDr FOn bOn gOn GOn
  have GIn := ok_inst (P := l.prog) (w := w) (base := base) (mg := mg) (k := 0) FIn FDr bDr gDr GDr FOn bOn gOn GOn FMi bMi gMi GMi FAm bAm gAm GAm m_tuple m_range m_list m_sum m_max m_min
  have GSm := ok_same (P := l.prog) (w := w) (base := base) (mg := mg) FSm bSm gSm m_isinstance m_list m_tuple m_len m_range m_str m_int m_bool 6
  have GLRl := ok_LRl (P := l.prog) (w := w) (base := base) (mg := mg) FLRl     m_tuple
  have GLJd := ok_LJd (P := l.prog) (w := w) (base := base) (mg := mg) FLJd     m_len m_list m_tuple
  have GLJ := ok_LJ (P := l.prog) (w := w) (base := base) (mg := mg) FLJ FJn bJn gJn GJn gTM gVE gTG ITM XTM x1 x2 x3 m_isinstance
  exact ok_La (P := l.prog) (w := w) (base := base) FLa  FSt bSt gSt GSt FDr bDr gDr GDr FIn bIn gIn GIn FMi bMi gMi GMi FLRl bLRl gLRl GLRl FRl bRl gRl GRl FSm bSm gSm GSm FLJ bLJ gLJ GLJ FLJd bLJd gLJd GLJd   m_range m_len m_list m_tuple m_repr
end Pv

open PySem PySem.W PyProof.Rows
set_option maxRecDepth 100000 in
set_option maxHeartbeats 0 in
theorem PySem.Challenge.cw_postvote_k54_posts_relabelled_and_instan_holds : PySem.Challenge.rw_postvote_k54_posts_relabelled_and_instan.Holds := by
  w_on; o_law; k_head; (case hw => w_witness2)
  k_fill
  refine Pv.walkG (l := PySem.Challenge.rw_postvote_k54_posts_relabelled_and_instan) (n := 63) (k := 7) (x := "_law_script") (sp := fun w => Pv.spLaw _) rfl (by decide) rfl ⟨rfl, by decide, by decide⟩ (fun w h Y => PySem.W.kIn_of Y) ?F (fun _ _ a ns hl _ _ hS => ⟨a, ns, rfl, hS, hl, fun _ => rfl⟩)
  case F =>
    intro w mg fa h KX G hmg
    refine' Pv.all_mk KX G hmg ?aRl ?lRl ?cRl ?kRl ?aJn ?lJn ?cJn ?kJn ?aSt ?lSt ?cSt ?kSt ?aDr ?lDr ?cDr ?kDr ?aOn ?lOn ?cOn ?kOn ?aSm ?lSm ?cSm ?kSm ?aMi ?lMi ?cMi ?kMi ?aAm ?lAm ?cAm ?kAm ?aIn ?lIn ?cIn ?kIn ?aLJ ?lLJ ?cLJ ?kLJ ?aLJd ?lLJd ?cLJd ?kLJd ?aLRl ?lLRl ?cLRl ?kLRl ?aLa ?lLa ?cLa ?kLa ?z0 ?z1 ?z2 ?z3 ?z4 ?z5 ?z6 ?z7 ?z8 ?z9 ?z10 ?z11 ?z12 ?y0 ?rPOSTS ?y1 ?rGROUPS ?aCVE ?iCVE ?aCTG ?iCTG ?aCTM ?iCTM ?lXTM ?vXTM ?nXTM ?lITM ?cITM ?kITM ?bXTM ?x1 ?x2 ?x3
    (case aRl => k_is); (case lRl => k_is); (case cRl => k_is); (case kRl => k_is); (case aJn => k_is); (case lJn => k_is); (case cJn => k_is); (case kJn => k_is); (case aSt => k_is); (case lSt => k_is); (case cSt => k_is); (case kSt => k_is); (case aDr => k_is); (case lDr => k_is); (case cDr => k_is); (case kDr => k_is); (case aOn => k_is); (case lOn => k_is); (case cOn => k_is); (case kOn => k_is); (case aSm => k_is); (case lSm => k_is); (case cSm => k_is); (case kSm => k_is); (case aMi => k_is); (case lMi => k_is); (case cMi => k_is); (case kMi => k_is); (case aAm => k_is); (case lAm => k_is); (case cAm => k_is); (case kAm => k_is); (case aIn => k_is); (case lIn => k_is); (case cIn => k_is); (case kIn => k_is); (case aLJ => k_is); (case lLJ => k_is); (case cLJ => k_is); (case kLJ => k_is); (case aLJd => k_is); (case lLJd => k_is); (case cLJd => k_is); (case kLJd => k_is); (case aLRl => k_is); (case lLRl => k_is); (case cLRl => k_is); (case kLRl => k_is); (case aLa => k_is); (case lLa => k_is); (case cLa => k_is); (case kLa => k_is); (case z0 => k_is); (case z1 => k_is); (case z2 => k_is); (case z3 => k_is); (case z4 => k_is); (case z5 => k_is); (case z6 => k_is); (case z7 => k_is); (case z8 => k_is); (case z9 => k_is); (case z10 => k_is); (case z11 => k_is); (case z12 => k_is); (case aCVE => k_is); (case iCVE => kernel_rfl); (case aCTG => k_is); (case iCTG => kernel_rfl); (case aCTM => k_is); (case iCTM => kernel_rfl); (case y0 => k_is); (case y1 => k_is); (case lXTM => k_is); (case vXTM => kernel_rfl); (case nXTM => k_is); (case lITM => k_is); (case cITM => k_is); (case kITM => k_is); (case bXTM => kernel_rfl); (case x1 => kernel_rfl); (case x2 => kernel_rfl); (case x3 => kernel_rfl); (case rPOSTS => exact ⟨_, rfl⟩); (case rGROUPS => exact ⟨_, rfl⟩)
