package parse_test

import (
	"slices"
	"strconv"
	"strings"
	"testing"
	"unsafe"

	"palimpsest/api"
	"palimpsest/parse"
	"palimpsest/scan"
)

// The calls must have just these signatures: the layers above are built on them.
var (
	_ func(text string) (api.Def, error) = parse.Parse
	_ func(d api.Def) string             = parse.Print
	_ func(e api.Expr) string            = parse.PrintExpr
	_ func(a, b api.Def) bool            = parse.Same
)

// A teller tells definitions as short texts, every field of them, with places or without.
type teller struct{ places bool }

func (l teller) at(at int) string {
	if !l.places {
		return ""
	}
	return "@" + strconv.Itoa(at)
}

// odd tells of fields that have no meaning, and aren't zero.
func odd(fine bool) string {
	if fine {
		return ""
	}
	return "?"
}

func (l teller) expr(e api.Expr) string {
	plain := e.Num == 0 && e.Name == ""
	switch {
	case e.Kind == api.ENumber:
		return strconv.Itoa(e.Num) + l.at(e.At) + odd(e.Name == "" && len(e.Args) == 0)
	case e.Kind == api.EName:
		return e.Name + l.at(e.At) + odd(e.Num == 0 && len(e.Args) == 0)
	case e.Kind == api.ECell && len(e.Args) == 1:
		return "(cell" + l.at(e.At) + odd(plain) + l.exprs(e.Args) + ")"
	case e.Kind == api.ENot && len(e.Args) == 1:
		return "(not" + l.at(e.At) + odd(plain) + l.exprs(e.Args) + ")"
	case e.Kind == api.ENeg && len(e.Args) == 1:
		return "(neg" + l.at(e.At) + odd(plain) + l.exprs(e.Args) + ")"
	case e.Kind == api.EBinary && len(e.Args) == 2:
		return "(" + e.Name + l.at(e.At) + odd(e.Num == 0) + l.exprs(e.Args) + ")"
	}
	return "?kind " + strconv.Itoa(e.Kind) + l.exprs(e.Args)
}

func (l teller) exprs(list []api.Expr) string {
	s := ""
	for _, e := range list {
		s += " " + l.expr(e)
	}
	return s
}

func (l teller) stmt(s api.Stmt) string {
	words := []string{"", "let", "set", "add", "sub", "swap", "if", "for"}
	counts := []int{-1, 1, 2, 2, 2, 2, 1, 0}
	if s.Kind < 1 || s.Kind >= len(words) || len(s.Exprs) != counts[s.Kind] {
		return "?kind " + strconv.Itoa(s.Kind)
	}
	text := words[s.Kind] + l.at(s.At)
	if s.Kind == api.SLet || s.Kind == api.SFor {
		text += " " + s.Name
	}
	if s.Kind == api.SFor {
		text += " " + strconv.Itoa(s.N)
	}
	text += l.exprs(s.Exprs)
	if s.Kind == api.SIf || s.Kind == api.SFor {
		text += " {" + l.stmts(s.Body) + " }"
	}
	if len(s.Else) > 0 {
		text += " {" + l.stmts(s.Else) + " }"
	}
	named := s.Kind == api.SLet || s.Kind == api.SFor
	return text + odd((named || s.Name == "") && (s.Kind == api.SFor || s.N == 0) &&
		(s.Kind >= api.SIf || len(s.Body) == 0) && (s.Kind == api.SIf || len(s.Else) == 0))
}

func (l teller) stmts(list []api.Stmt) string {
	s := ""
	for _, x := range list {
		s += " " + l.stmt(x) + ";"
	}
	return s
}

func (l teller) def(d api.Def) string {
	return d.Name + "(" + strings.Join(d.Params, " ") + ") need" + l.exprs(d.Needs) + " do" + l.stmts(d.Body) + " give" + l.exprs(d.Give)
}

// placed and plain are a definition as a text, with its places and without.
func placed(d api.Def) string { return teller{true}.def(d) }
func plain(d api.Def) string  { return teller{}.def(d) }

// short is a text as a failed test tells it.
func short(text string) string {
	return strconv.Quote(text[:min(len(text), 200)])
}

// parsed is the definition of a text that must have one.
func parsed(t *testing.T, text string) api.Def {
	t.Helper()
	d, err := parse.Parse(text)
	if err != nil {
		place := -1
		if f, ok := err.(*api.Fault); ok && f != nil {
			place = f.At
		}
		t.Errorf("%s: %v at %d", short(text), err, place)
	}
	return d
}

// reads holds a text's definition, with its places, against what is wanted.
func reads(t *testing.T, text, want string) {
	t.Helper()
	if got := placed(parsed(t, text)); got != want {
		t.Errorf("%s:\n%s, want\n%s", short(text), got, want)
	}
}

// gives holds an expression, with places from its own beginning on, against what is wanted.
func gives(t *testing.T, text, want string) {
	t.Helper()
	const head = "op o(){give "
	d := parsed(t, strings.Repeat(" ", 100-len(head))+head+text+";}")
	if len(d.Give) != 1 {
		t.Errorf("%s: %d are given", short(text), len(d.Give))
		return
	}
	got := teller{true}.expr(d.Give[0])
	for at := 100 + len(text); at >= 100; at-- {
		got = strings.ReplaceAll(got, "@"+strconv.Itoa(at), "@"+strconv.Itoa(at-100))
	}
	if got != want {
		t.Errorf("%s: %s, want %s", short(text), got, want)
	}
}

// nothing tells whether a definition is the zero value.
func nothing(d api.Def) bool {
	return d.Name == "" && len(d.Params) == 0 && len(d.Needs) == 0 && len(d.Body) == 0 && len(d.Give) == 0
}

// refused tells of a text that isn't refused with this fault, and with nothing beside it.
func refused(t *testing.T, text string, code api.Errno, at int) {
	t.Helper()
	d, err := parse.Parse(text)
	f, ok := err.(*api.Fault)
	if !ok || f == nil || *f != (api.Fault{Code: code, At: at}) || !nothing(d) {
		got := -1
		if f != nil {
			got = f.At
		}
		t.Errorf("%s: %v at %d with %s, want %v at %d", short(text), err, got, placed(d), code, at)
	}
}

// stands tells of a text in which the token behind the mark ^ isn't where ErrSyntax is told.
func stands(t *testing.T, text string) {
	t.Helper()
	at := strings.IndexByte(text, '^')
	refused(t, text[:at]+text[at+1:], api.ErrSyntax, at)
}

// P7.1: ordinary texts

func TestExamples(t *testing.T) {
	reads(t, "op add(i, v) { need i < 60; [i] += v; give [i]; }",
		"add(i v) need (<@22 i@20 60@24) do add@28 i@29 v@35; give (cell@43 i@44)")
	refused(t, "op x() { [0] = 1 }", api.ErrSyntax, 17)
	refused(t, "op x(op) {}", api.ErrSyntax, 5)
}

func TestParamsAndParts(t *testing.T) {
	reads(t, "op o(){}", "o() need do give")
	reads(t, "op opa(a){}", "opa(a) need do give")
	reads(t, "op o(a,b,a){}", "o(a b a) need do give")
	many := strings.TrimSuffix(strings.Repeat("p,", 232), ",")
	reads(t, "op o("+many+"){}", "o("+strings.ReplaceAll(many, ",", " ")+") need do give")
	reads(t, "op "+strings.Repeat("n", 16)+"(Need, Op, giv, trues, in_) {}", strings.Repeat("n", 16)+"(Need Op giv trues in_) need do give")
	reads(t, "op o(){need a;need 1;}", "o() need a@12 1@19 do give")
	reads(t, "op o(){give 1;}", "o() need do give 1@12")
	reads(t, "op o(){need true;let a=1;give a;}", "o() need true@12 do let@17 a 1@23; give a@30")
	reads(t, "op o(){need a;let a=1;}", "o() need a@12 do let@14 a 1@20; give")
}

func TestStatements(t *testing.T) {
	reads(t, "op o(){let a=b+1;}", "o() need do let@7 a (+@14 b@13 1@15); give")
	reads(t, "op o(){[a]=1;}", "o() need do set@7 a@8 1@11; give")
	reads(t, "op o(){[a]+=1;}", "o() need do add@7 a@8 1@12; give")
	reads(t, "op o(){[a]-=1;}", "o() need do sub@7 a@8 1@12; give")
	reads(t, "op o(){[a]<>[1];}", "o() need do swap@7 a@8 1@13; give")
	reads(t, "op o(){[[a]]=[[1]];}", "o() need do set@7 (cell@8 a@9) (cell@13 (cell@14 1@15)); give")
	reads(t, "op o(){[(a)]<>[(1+2)];}", "o() need do swap@7 a@9 (+@17 1@16 2@18); give")
	reads(t, "op o(){[a]+=-1;[a]-=-1;[a]=-1;}", "o() need do add@7 a@8 (neg@12 1@13); sub@15 a@16 (neg@20 1@21); set@23 a@24 (neg@27 1@28); give")
	reads(t, "op o(){[0]=1;[0]=1;}", "o() need do set@7 0@8 1@11; set@13 0@14 1@17; give")
}

func TestBlocks(t *testing.T) {
	reads(t, "op o(){if a{}}", "o() need do if@7 a@10 { }; give")
	reads(t, "op o(){if a{}else{}}", "o() need do if@7 a@10 { }; give")
	reads(t, "op o(){if a{[1]=2;}}", "o() need do if@7 a@10 { set@12 1@13 2@16; }; give")
	reads(t, "op o(){if a{[1]=2;}else{[3]=4;let b=5;}}", "o() need do if@7 a@10 { set@12 1@13 2@16; } { set@24 3@25 4@28; let@30 b 5@36; }; give")
	reads(t, "op o(){if a{}else{[3]=4;}}", "o() need do if@7 a@10 { } { set@18 3@19 4@22; }; give")
	reads(t, "op o(){if(a){}}", "o() need do if@7 a@10 { }; give")
	reads(t, "op o(){for i in 0..3{}}", "o() need do for@7 i 3 { }; give")
	reads(t, "op o(){for i in 0 .. 3{[i]=1;}}", "o() need do for@7 i 3 { set@23 i@24 1@27; }; give")
	reads(t, "op o(){if a{if b{if c{[0]=1;}}}else{for i in 0..2{for k in 0..3{}}}}",
		"o() need do if@7 a@10 { if@12 b@15 { if@17 c@20 { set@22 0@23 1@26; }; }; } { for@36 i 2 { for@50 k 3 { }; }; }; give")
	reads(t, "op o(){if a{}if b{}for i in 0..1{}let c=1;}", "o() need do if@7 a@10 { }; if@13 b@16 { }; for@19 i 1 { }; let@34 c 1@40; give")
}

func TestRounds(t *testing.T) {
	for _, n := range []string{"0", "1", "64", "65", "9223372036854775807"} {
		reads(t, "op o(){for i in 0.."+n+"{}}", "o() need do for@7 i "+n+" { }; give")
	}
	for _, text := range []string{"for i in ^1..3{}", "for i in ^10..3{}", "for i in ^n..3{}", "for i in ^(0)..3{}", "for i in ^-0..3{}",
		"for i in ^..3{}", "for i in 0^,3{}", "for i in 0 ^3{}", "for i in 0^;", "for i in 0..^n{}", "for i in 0..^-1{}", "for i in 0..^(3){}",
		"for i in 0..^[3]{}", "for i in 0..^{}", "for i in 0..3^+1{}", "for i in 0..3^..4{}", "for i ^0..3{}", "for i^=0..3{}",
		"for ^in 0..3{}", "for ^0..3{}"} {
		stands(t, "op o(){"+text+"}")
	}
}

// P7.1: expressions

func TestPrimaries(t *testing.T) {
	gives(t, "0", "0@0")
	gives(t, "9223372036854775807", "9223372036854775807@0")
	gives(t, "x_1", "x_1@0")
	gives(t, "true", "true@0")
	gives(t, "false", "false@0")
	gives(t, "[1]", "(cell@0 1@1)")
	gives(t, "[ true ]", "(cell@0 true@2)")
	gives(t, "(1)", "1@1")
	gives(t, "( ( a ) )", "a@4")
	gives(t, "([a])", "(cell@1 a@2)")
	gives(t, "[(a)]", "(cell@0 a@2)")
	gives(t, "[[[1]]]", "(cell@0 (cell@1 (cell@2 1@3)))")
}

func TestUnary(t *testing.T) {
	gives(t, "-1", "(neg@0 1@1)")
	gives(t, "!a", "(not@0 a@1)")
	gives(t, "- - ! a", "(neg@0 (neg@2 (not@4 a@6)))")
	gives(t, "--1", "(neg@0 (neg@1 1@2))")
	gives(t, "!!1", "(not@0 (not@1 1@2))")
	gives(t, "(-1)", "(neg@1 1@2)")
	gives(t, "-(1)", "(neg@0 1@2)")
	gives(t, "-(1+2)", "(neg@0 (+@3 1@2 2@4))")
	gives(t, "-[1]", "(neg@0 (cell@1 1@2))")
	gives(t, "-9223372036854775807", "(neg@0 9223372036854775807@1)")
	gives(t, "-a*b", "(*@2 (neg@0 a@1) b@3)")
	gives(t, "a*-b", "(*@1 a@0 (neg@2 b@3))")
	gives(t, "a--b", "(-@1 a@0 (neg@2 b@3))")
	gives(t, "a - - - b", "(-@2 a@0 (neg@4 (neg@6 b@8)))")
	gives(t, "!a==b", "(==@2 (not@0 a@1) b@4)")
	gives(t, "a==!b", "(==@1 a@0 (not@3 b@4))")
	gives(t, "a!=!b", "(!=@1 a@0 (not@3 b@4))")
	gives(t, "-1<-2", "(<@2 (neg@0 1@1) (neg@3 2@4))")
}

func TestFromTheLeft(t *testing.T) {
	gives(t, "a - b - c", "(-@6 (-@2 a@0 b@4) c@8)")
	gives(t, "a+b-c+d", "(+@5 (-@3 (+@1 a@0 b@2) c@4) d@6)")
	gives(t, "a/b*c%d", "(%@5 (*@3 (/@1 a@0 b@2) c@4) d@6)")
	gives(t, "a||b||c", "(||@4 (||@1 a@0 b@3) c@6)")
	gives(t, "a&&b&&c", "(&&@4 (&&@1 a@0 b@3) c@6)")
	gives(t, "a-(b-c)", "(-@1 a@0 (-@4 b@3 c@5))")
	gives(t, "(a-b)-c", "(-@5 (-@2 a@1 b@3) c@6)")
	gives(t, "a/(b*c)", "(/@1 a@0 (*@4 b@3 c@5))")
	gives(t, "a&&(b&&c)", "(&&@1 a@0 (&&@5 b@4 c@7))")
}

func TestLevels(t *testing.T) {
	gives(t, "1+2*3", "(+@1 1@0 (*@3 2@2 3@4))")
	gives(t, "1*2+3", "(+@3 (*@1 1@0 2@2) 3@4)")
	gives(t, "(1+2)*3", "(*@5 (+@2 1@1 2@3) 3@6)")
	gives(t, "1<2+3", "(<@1 1@0 (+@3 2@2 3@4))")
	gives(t, "1+2<3", "(<@3 (+@1 1@0 2@2) 3@4)")
	gives(t, "(1<2)+3", "(+@5 (<@2 1@1 2@3) 3@6)")
	gives(t, "(1<2)==(3<4)", "(==@5 (<@2 1@1 2@3) (<@9 3@8 4@10))")
	gives(t, "a&&b<c", "(&&@1 a@0 (<@4 b@3 c@5))")
	gives(t, "a<b&&c", "(&&@3 (<@1 a@0 b@2) c@5)")
	gives(t, "a||b&&c", "(||@1 a@0 (&&@4 b@3 c@6))")
	gives(t, "a&&b||c", "(||@4 (&&@1 a@0 b@3) c@6)")
	gives(t, "a||b&&c<d+e*-f", "(||@1 a@0 (&&@4 b@3 (<@7 c@6 (+@9 d@8 (*@11 e@10 (neg@12 f@13))))))")
	gives(t, "-a*b+c<d&&e||f", "(||@11 (&&@8 (<@6 (+@4 (*@2 (neg@0 a@1) b@3) c@5) d@7) e@10) f@13)")
	for _, operator := range []string{"<", "<=", ">", ">=", "==", "!="} {
		n := len(operator)
		gives(t, "a"+operator+"1", "("+operator+"@1 a@0 1@"+strconv.Itoa(n+1)+")")
		stands(t, "op o(){give a"+operator+"b^<c;}")
		stands(t, "op o(){give a<b^"+operator+"c;}")
		stands(t, "op o(){give (a"+operator+"b^=="+"c);}")
	}
}

// P7.1: wrong texts

func TestWrongOperations(t *testing.T) {
	for _, text := range []string{"^", " # nothing\n^", "^add(){}", "^(", "^OP o(){}", "^need", "^1", "^}", "op^", "op ^op(){}",
		"op ^need(){}", "op ^true(){}",
		"op ^1(){}", "op ^(){}", "op o^{}", "op o ^a){}", "op o^[a]{}", "op o ^p(){}", "op o^",
		"op o(^,){}", "op o(a ^b){}", "op o(a,^){}", "op o(a,^,b){}", "op o(a^;b){}", "op o(^1){}", "op o(^in){}", "op o(a,^false){}", "op o(^(a)){}",
		"op o(^-a){}", "op o(a^=1){}", "op o(^{}", "op o(a^{}", "op o(^", "op o(a^", "op o(a,^", "op o()^", "op o()^;", "op o()^[",
		"op o()^)", "op o() ^give 1;",
		"op o(){^", "op o(){}^}", "op o(){}^;", "op o(){} ^op p(){}", "op o(){}^1", "op o(){} ^x # y", "op o(){^;}", "op o(){^1;}", "op o(){^a=1;}",
		"op o(){^{}}", "op o(){^(a)=1;}", "op o(){^else{}}", "op o(){^in}", "op o(){^true}", "op o(){^op p(){}}", "op o(){^!a;}",
		"op o(){^-1;}", "op o(){^,}"} {
		stands(t, text)
	}
	for _, word := range strings.Fields("op need let if else for in give true false") {
		stands(t, "op ^"+word+"(){}")
		stands(t, "op o(^"+word+"){}")
		stands(t, "op o(a,^"+word+"){}")
		stands(t, "op o(){let ^"+word+"=1;}")
		stands(t, "op o(){for ^"+word+" in 0..1{}}")
		if word != "true" && word != "false" {
			stands(t, "op o(){give ^"+word+";}")
			stands(t, "op o(){[^"+word+"]=1;}")
			stands(t, "op o(){give 1+-^"+word+";}")
		}
	}
}

func TestWrongOrder(t *testing.T) {
	for _, text := range []string{"let a=1;^need a;", "give 1;^need a;", "give 1;^give 2;", "give 1;^let a=1;", "give 1;^[0]=1;", "give 1;^if a{}",
		"give 1;^for i in 0..1{}", "give 1;^;", "need a;give 1;^[0]=1;", "if a{}^need b;", "if a{^give 1;}", "if a{^need a;}", "if a{}else{^give 1;}",
		"for i in 0..1{^need 1;}", "for i in 0..1{^give 1;}", "need ^;", "need a^}", "need a ^need b;", "need ^let a=1;", "give ^;",
		"give 1^}", "give ^{}"} {
		stands(t, "op o(){"+text+"}")
	}
}

func TestWrongStatements(t *testing.T) {
	for _, text := range []string{"let ^let=1;", "let ^1=1;", "let ^[1]=1;", "let ^=1;", "let a^+=1;", "let a^==1;", "let a^;", "let a ^1;",
		"let a=^;", "let a=1^}", "let a=1^,b=2;", "let a=1 ^let b=2;",
		"[^]=1;", "[0^=1;", "[0^;", "[0]^;", "[0]^==1;", "[0]^<1;", "[0]^+1;", "[0]^*1;", "[0]^- =1;", "[0]^(1);", "[0]^[1]=2;",
		"[0] ^a=1;", "[0]=^;", "[0]= ^=1;", "[0]= ^==1;", "[0]=1^}", "[0]=1^[1]=2;", "[0]=1^=2;",
		"[0]+=^;", "[0]+=^}", "[0]+=[1^;", "[0]-=^=1;", "[0]-=1^-=1;", "[0]<>^1;", "[0]<>^a;", "[0]<>^(1);", "[0]<>^;", "[0]<>[^];",
		"[0]<>[1]^+1;", "[0]<>[1]^}", "[0]<>^-[1];", "[0]<>^([1]);",
		"[0]<>[1]^<>[2];", "[0]^<=[1];", "[0]^>[1];", "[0]^< >[1];", "[a^+=1]=2;", "[a^=1]=2;", "[a]=b^=1;", "[a^,b]=2;", "[a^;]=1;",
		"[0]=1;^;", "^-[0]=1;", "[0]^.."} {
		stands(t, "op o(){"+text+"}")
	}
}

func TestWrongBlocks(t *testing.T) {
	for _, text := range []string{"if ^{}", "if a^;", "if a ^[", "if a ^let b=1;", "if a^}", "if a{}^;", "if a{}else ^if b{}",
		"if a{}else^;", "if a{}else ^let b=1;", "if a{}else{}^else{}",
		"if a ^then{}", "if a^=b{}", "if ^let{}", "if a ^else{}", "if a^,b{}", "if a{}^{}", "if a{}}^}", "^else{}", "for i in 0..1^;",
		"for i in 0..1 ^[0]=1;", "for i in 0..1{}^else{}", "for i in 0..1^}", "for ^(i in 0..1){}", "for ^[0] in 0..1{}"} {
		stands(t, "op o(){"+text+"}")
	}
	stands(t, "op o(){if a{^")
	stands(t, "op o(){if a{}^")
	stands(t, "op o(){if a{}else{^")
	stands(t, "op o(){for i in 0..1{^")
	stands(t, "op o(){for i in 0..1{}^")
}

func TestWrongExpressions(t *testing.T) {
	for _, text := range []string{"^", "^+1", "^*1", "1 ^2", "a ^b", "1 ^a", "1+^", "1+^+2", "1*^/2", "a< ^>b", "a< ^==b", "a<^&&b", "a&&^",
		"a&&^&&b", "a||^&&b", "a||^||b",
		"-^", "!^", "! ^==a", "-^)1", "-^*1", "!^&&a", "(^)", "(1^", "1^)", "((1)^", "(1^]", "[^]", "[1^", "[1^)", "[(1^])", "[1]^[2]",
		"1^(2)", "a^[1]", "a^(1)", "a^()", "(1)^(2)", "(1) ^a",
		"true ^false", "true^=1", "true^(1)", "a^..b", "0^..1", "a^,b", "(a^,b)", "(a ^b)", "a^{}", "^{}", "a^<>b", "a^-=b", "a^+=b",
		"a^!b", "a^=b", "a==^=b", "(a^;)", "(a^}",
		"1==2^==3", "1<2^!=3", "1<2+3^>4", "(1<2)<(3<4)^<5", "a&&1<2^<3", "1<-2^<3", "a||b<c^==d", "1<(2<3)^<4", "a ^need b", "a ^else b",
		"a ^in b"} {
		stands(t, "op o(){give "+text+";}")
		stands(t, "op o(){need "+text+";}")
		stands(t, "op o(){let a="+text+";}")
		stands(t, "op o(a,b,c){if a{[0]+="+text+";}}")
	}
	for _, text := range []string{"1^", "(^", "(1^", "[^", "[1^", "-^", "!^", "a+^", "a<^", "a<b^", "a&&^", "a||b^", "((1)^", "[(1^", "[(1)^"} {
		stands(t, "op o(){give "+text)
		stands(t, "op o(){need "+text)
		stands(t, "op o(){if "+text)
	}
}

// Of the faults of layer 6 and those of this layer the former are told, wherever they stand.
func TestFaultsOfTokens(t *testing.T) {
	refused(t, "op x( § }", api.ErrToken, 6)
	refused(t, "op x() { } } &", api.ErrToken, 13)
	refused(t, "op x( } 007", api.ErrToken, 8)
	refused(t, "need 007 ) |", api.ErrToken, 5)
	refused(t, "&", api.ErrToken, 0)
	refused(t, "op x() { [0] = 9223372036854775808; }", api.ErrToken, 15)
	refused(t, "op "+strings.Repeat("n", 17)+"(){}", api.ErrToken, 3)
	refused(t, "op x(op) {} # &", api.ErrSyntax, 5)
	refused(t, "op o(){give 0...1;}", api.ErrToken, 15)
	deep := "op o(){give " + strings.Repeat("-", 12) + "1"
	refused(t, deep+";}", api.ErrSyntax, 23)
	refused(t, deep+"&;}", api.ErrToken, 25)
}

func TestLengths(t *testing.T) {
	whole := "op o(){}"
	reads(t, whole+strings.Repeat(" ", 480-len(whole)), "o() need do give")
	reads(t, whole+strings.Repeat("#", 480-len(whole)), "o() need do give")
	reads(t, strings.Repeat("\n", 480-len(whole))+whole, "o() need do give")
	for _, n := range []int{481, 482, 960, 4096, 100000} {
		refused(t, whole+strings.Repeat(" ", n-len(whole)), api.ErrForm, 0)
		refused(t, strings.Repeat("&", n), api.ErrForm, 0)
		refused(t, strings.Repeat(")", n), api.ErrForm, 0)
	}
	refused(t, strings.Repeat(" ", 480), api.ErrSyntax, 480)
	refused(t, strings.Repeat(")", 480), api.ErrSyntax, 0)
	refused(t, whole+strings.Repeat(" ", 471)+"}", api.ErrSyntax, 479)
	sum := "op o(){give " + strings.Repeat("a+", 232) + "bb;}"
	if len(sum) != 480 {
		t.Fatal(len(sum))
	}
	reads(t, sum, leftmost(232))
	refused(t, sum+"#", api.ErrForm, 0)
	refused(t, sum+" ", api.ErrForm, 0)
	refused(t, sum[:479], api.ErrSyntax, 479)
}

// leftmost is what a sum of so many operators, from 13 on, is taken for.
func leftmost(operators int) string {
	s := "a@12"
	for i := range operators {
		right := "a"
		if i == operators-1 {
			right = "bb"
		}
		at := 13 + 2*i
		s = "(+@" + strconv.Itoa(at) + " " + s + " " + right + "@" + strconv.Itoa(at+1) + ")"
	}
	return "o() need do give " + s
}

// tokens is a text's tokens without the end.
func tokens(t *testing.T, text string) []api.Token {
	t.Helper()
	list, err := scan.Tokens(text)
	if err != nil || len(list) == 0 {
		t.Fatalf("%s: %v", short(text), err)
	}
	return list[:len(list)-1]
}

// A text that ends too early is at fault where it ends.
func TestCutTexts(t *testing.T) {
	for _, text := range ordinary() {
		for _, token := range tokens(t, text) {
			cut := text[:token.At]
			refused(t, cut, api.ErrSyntax, len(cut))
			refused(t, cut+" ", api.ErrSyntax, len(cut)+1)
			refused(t, cut+"\n# }\n", api.ErrSyntax, len(cut)+5)
		}
	}
}

// Whatever stands behind the last bracket is at fault.
func TestBehindTheEnd(t *testing.T) {
	for _, text := range ordinary() {
		for _, more := range []string{"}", "{", ";", "op", "op x(){}", "a", "1", "give 1;", "else{}", "[0]=1;", "(", "-", ".."} {
			refused(t, text+" "+more, api.ErrSyntax, len(text)+1)
		}
		if got := plain(parsed(t, text+" # }")); got != plain(parsed(t, text)) {
			t.Errorf("%s: %s", short(text), got)
		}
	}
}

// ordinary is texts in which every form stands. They end with their last bracket.
func ordinary() []string {
	return []string{
		"op o(){}",
		"op add(i, v) { need i < 60; [i] += v; give [i]; }",
		"op put(i, v) { [i] = v; }",
		"op move(a, b, n) { need n >= 0 && n <= [a]; [a] -= n; [b] += n; }",
		"op turn(i, k) { [i] <> [k]; let x = i * 2 - k; if x == 0 || !(i != k) { [0] += 1; } else { [1] -= -x; } }",
		"op sum(n) {\n\tlet t = 59; # the last one\n\t[t] = 0;\n\tfor i in 0..59 {\n\t\tif i < n { [t] += [i]; }\n\t}\n\tgive [t];\n}",
		"op deep(a) { for i in 0..2 { for k in 0..3 { if a % 2 == 1 { [i + k * 3] <> [[a] / 2]; } else { } } } give -(a - (1 - 2)); }",
		"op say(a) { need true; need !false; let b = a > 1; if b { let c = 2; [c] = 3; } give 9223372036854775807; }",
	}
}

func TestOrdinary(t *testing.T) {
	for _, text := range ordinary() {
		if d := parsed(t, text); d.Name == "" {
			t.Errorf("%s: %s", short(text), plain(d))
		}
	}
}

// P7.3

func TestBlanksAndRemarks(t *testing.T) {
	for _, text := range ordinary() {
		want := plain(parsed(t, text))
		var words []string
		for _, token := range tokens(t, text) {
			words = append(words, token.Text)
		}
		for _, between := range []string{" ", "\n", "\t", "  ", "#\n", "#}\n", " \t\n"} {
			wide := between + strings.Join(words, between) + between
			if len(wide) > 480 {
				continue
			}
			if got := plain(parsed(t, wide)); got != want {
				t.Errorf("%s: %s, want %s", short(wide), got, want)
			}
		}
	}
	reads(t, "op#\no#(\n(#)\n)#{\n{#}\n}#;", "o() need do give")
	reads(t, "#op o(){}\nop o(){#give 1;\n}", "o() need do give")
	reads(t, "\top\n o\t(\na ,b ){\n[ a\n]+=\tb ;# [a]=1;\n}\n", "o(a b) need do add@17 a@19 b@25; give")
	reads(t, "op o(){for i in 0#..\n..#3\n4{}}", "o() need do for@7 i 4 { }; give")
	refused(t, "op o(){for i in 0. .4{}}", api.ErrToken, 17)
	stands(t, "op o(){[0]^+ =1;}")
	stands(t, "op o(){[0]^< >[1];}")
	stands(t, "op o(){give a<#\n^=b;}")
	stands(t, "op o ^p(){}")
	stands(t, "^o p o(){}")
}

// P7.1: depth

// wrap is a text with what is deeper by one for each of these signs: ( [ - ! for expressions.
func wrap(signs string) string {
	text := "1"
	for i := len(signs) - 1; i >= 0; i-- {
		switch signs[i] {
		case '(':
			text = "(" + text + ")"
		case '[':
			text = "[" + text + "]"
		default:
			text = signs[i:i+1] + text
		}
	}
	return text
}

// isDeep holds expressions within so many blocks to the depth that is allowed: the last of the signs is too deep.
func isDeep(t *testing.T, head, signs, tail string) {
	t.Helper()
	last := len(signs) - 1
	parsed(t, head+wrap(signs[:last])+tail)
	refused(t, head+wrap(signs)+tail, api.ErrSyntax, len(head)+last)
	refused(t, head+wrap(signs+"-(")+tail, api.ErrSyntax, len(head)+last)
	refused(t, head+signs, api.ErrSyntax, len(head)+last)
	refused(t, head+signs[:last], api.ErrSyntax, len(head)+last)
}

func TestDepthOfExpressions(t *testing.T) {
	for _, signs := range []string{"((((((((((((", "[[[[[[[[[[[[", "------------", "!!!!!!!!!!!!", "([-!([-!([-!", "-(-(-(-(-(-(",
		"!-!-!-!-!-!-", "[([([([([([(", "![![![![![![", "((((((((((((", "[[[[[[[[[[[-", "-----------(", "([([([([([(!"} {
		isDeep(t, "op o(){give ", signs, ";}")
		isDeep(t, "op o(){need ", signs, ";}")
		isDeep(t, "op o(){let a=", signs, ";}")
		isDeep(t, "op o(){[0]=", signs, ";}")
		isDeep(t, "op o(){[0]+=2*", signs, ";}")
		isDeep(t, "op o(){give ((1))+[[2]]- - -3<", signs, ";}")
		isDeep(t, "op o(){if ", signs, "{}}")
	}
}

func TestDepthOfCells(t *testing.T) {
	isDeep(t, "op o(){[", "(((((((((((", "]=1;}")
	isDeep(t, "op o(){[", "-----------", "]+=1;}")
	isDeep(t, "op o(){[0]<>[", "[[[[[[[[[[[", "];}")
	isDeep(t, "op o(){[0]<>[", "!(![(-(-[-(", "];}")
	isDeep(t, "op o(){if 1{[0]-=", "-----------", ";}}")
}

// blocks is an operation of so many blocks within one another, and what is in the innermost one.
func blocks(count int, begin, inner string) string {
	return "op o(){" + strings.Repeat(begin+"{", count-1) + inner + strings.Repeat("}", count)
}

func TestDepthOfBlocks(t *testing.T) {
	for _, begin := range []string{"if 1", "if 1{}else", "for i in 0..1", "[0]=1;if 1"} {
		parsed(t, blocks(12, begin, ""))
		parsed(t, blocks(12, begin, "let a=1+2*3;"))
		brace := len("op o(){") + 11*len(begin+"{") + strings.IndexAny(begin+"{", "[{")
		refused(t, blocks(13, begin, ""), api.ErrSyntax, brace)
		refused(t, blocks(14, begin, ""), api.ErrSyntax, brace)
		refused(t, blocks(30, begin, "")[:brace+1], api.ErrSyntax, brace)
		for _, inner := range []string{"^[0]=1;", "let a=^(1);", "let a=^-1;", "let a=^!1;", "let a=^[1];", "if 1^{}", "for i in 0..1^{}",
			"let a=1+^-1;", "let a=1-2*^(3);", "^[", "if ^(1){}"} {
			stands(t, blocks(12, begin, inner))
		}
		parsed(t, blocks(11, begin, "[0]=1;[0]+=[1];[0]<>[1];let a=-1--2*(3);if !1{}for i in 0..1{}"))
		for _, inner := range []string{"[^(0)]=1;", "[^[0]]=1;", "[0]=(^(1));", "let a=-^-1;", "[0]<>[^-1];", "if 1{^[0]=1;}",
			"if 1{}else{if 1^{}}", "if -^(1){}", "let a=(1+^(2));"} {
			stands(t, blocks(11, begin, inner))
		}
	}
}

func TestDepthMixed(t *testing.T) {
	parsed(t, "op o(){if 1{for i in 0..1{if 1{}else{[(-[(!(-1))])]=1;}}}}")
	for count := 1; count <= 11; count++ {
		for _, signs := range []string{"(((((((((((((", "[[[[[[[[[[[[[", "-------------", "!([-!([-!([-!"} {
			head := "op o(){" + strings.Repeat("if 1{", count-1) + "let a="
			isDeep(t, head, signs[:13-count], ";"+strings.Repeat("}", count))
		}
	}
}

// What ended isn't counted any more.
func TestDepthBeside(t *testing.T) {
	deep := wrap("([-!([-!([-")
	parsed(t, "op o(){need "+deep+";need "+deep+";let a="+deep+"+"+deep+"*"+deep+";[0]="+deep+";give "+deep+"<"+deep+"-"+deep+";}")
	parsed(t, "op o(){give --1--1--1--1--1--1--1--1;}")
	parsed(t, "op o(){give (1)+(2)+(3)+(4)+(5)+(6)+(7)+(8)+(9)+(10)+(11)+(12)+(13);}")
	parsed(t, "op o(){give [1]+[2]+[3]+[4]+[5]+[6]+[7]+[8]+[9]+[10]+[11]+[12]+[13];}")
	parsed(t, "op o(){give "+strings.Repeat("1-", 100)+"1;}")
	parsed(t, "op o(){"+strings.Repeat("if 1{}else{}", 30)+"}")
	parsed(t, "op o(){"+strings.Repeat("for i in 0..1{if 1{}}", 20)+"}")
	parsed(t, "op o(){"+strings.Repeat("[0]=1;", 60)+"}")
}

// The first fault counts, whichever it is.
func TestFirstFault(t *testing.T) {
	stands(t, "op o(){give ((((((((((("+"^(1;}")
	stands(t, "op o(){give 1 ^2+((((((((((((1))))))))))));}")
	stands(t, "op o(){give (((((((((((1)))))))))))^);}")
	stands(t, "op o(){give (((((((((((^)))))))))));}")
	stands(t, blocks(12, "if 1", "let ^(=1;"))
	stands(t, blocks(12, "if 1", "^give 1;"))
	stands(t, blocks(12, "if 1", "^{"))
	stands(t, blocks(12, "if 1", "if 1^;"))
}

// Rules 5 and 8: answers

// memory is where the items of a list stand, its spare room included.
type memory struct{ from, to uintptr }

func room[T any](list []T) memory {
	from := uintptr(unsafe.Pointer(unsafe.SliceData(list)))
	var item T
	return memory{from, from + uintptr(cap(list))*unsafe.Sizeof(item)}
}

func roomsOfExprs(list []api.Expr) []memory {
	rooms := []memory{room(list)}
	for _, e := range list {
		rooms = append(rooms, roomsOfExprs(e.Args)...)
	}
	return rooms
}

func roomsOfStmts(list []api.Stmt) []memory {
	rooms := []memory{room(list)}
	for _, s := range list {
		rooms = append(append(append(rooms, roomsOfExprs(s.Exprs)...), roomsOfStmts(s.Body)...), roomsOfStmts(s.Else)...)
	}
	return rooms
}

func TestNewMemory(t *testing.T) {
	for _, text := range ordinary() {
		var rooms []memory
		for range 2 {
			d := parsed(t, text)
			rooms = append(rooms, room(d.Params))
			rooms = append(append(append(rooms, roomsOfExprs(d.Needs)...), roomsOfStmts(d.Body)...), roomsOfExprs(d.Give)...)
		}
		slices.SortFunc(rooms, func(a, b memory) int { return int(a.from) - int(b.from) })
		last := memory{}
		for _, r := range rooms {
			if r.from == r.to {
				continue
			}
			if r.from < last.to {
				t.Errorf("%s: two lists share memory", short(text))
			}
			last = r
		}
	}
}

func TestSameAnswers(t *testing.T) {
	for _, text := range ordinary() {
		first := parsed(t, text)
		parse.Parse("op x( § }")
		parse.Parse("op x( }")
		if second := parsed(t, text); placed(first) != placed(second) {
			t.Errorf("%s: %s, then %s", short(text), placed(first), placed(second))
		}
	}
	_, one := parse.Parse("op")
	_, two := parse.Parse("op")
	if a, b := one.(*api.Fault), two.(*api.Fault); a == b || *a != *b {
		t.Error(a, b)
	}
}
