package code_test

import (
	"fmt"
	"math"
	"reflect"
	"strconv"
	"strings"
	"testing"

	"palimpsest/api"
	"palimpsest/code"
	"palimpsest/invert"
	"palimpsest/parse"
)

// The calls must have just these signatures: the layers above are built on them.
var (
	_ func(d api.Def) (api.Code, error) = code.Compile
	_ func(c api.Code) string           = code.Text
	_ func(a, b api.Code) bool          = code.Same
)

const (
	least    = math.MinInt
	greatest = math.MaxInt
)

// parsed is the definition of a text that must have one.
func parsed(t *testing.T, text string) api.Def {
	t.Helper()
	d, err := parse.Parse(text)
	if err != nil {
		t.Fatalf("%q: %v", text, err)
	}
	return d
}

// turned is a definition that can be turned round, turned.
func turned(t *testing.T, d api.Def) api.Def {
	t.Helper()
	u, err := invert.Turn(d)
	if err != nil {
		t.Fatalf("%q: %v", shown(d), err)
	}
	return u
}

// back is a definition with each of its loops running backwards.
func back(d api.Def) api.Def {
	d.Body = backward(d.Body, func() bool { return true })
	return d
}

func backward(list []api.Stmt, this func() bool) []api.Stmt {
	var all []api.Stmt
	for _, s := range list {
		if s.Kind == api.SFor && this() {
			s.Kind = api.SBack
		}
		s.Body, s.Else = backward(s.Body, this), backward(s.Else, this)
		all = append(all, s)
	}
	return all
}

// shown is a definition as a text, with "back" for a loop that runs backwards, which no text of the language has.
func shown(d api.Def) string {
	text := "op " + d.Name + "(" + strings.Join(d.Params, ",") + "){"
	for _, e := range d.Needs {
		text += "need " + parse.PrintExpr(e) + ";"
	}
	text += shownStmts(d.Body)
	for _, e := range d.Give {
		text += "give " + parse.PrintExpr(e) + ";"
	}
	return text + "}"
}

func shownStmts(list []api.Stmt) string {
	text := ""
	for _, s := range list {
		text += shownStmt(s)
	}
	return text
}

func shownStmt(s api.Stmt) string {
	var parts []string
	for _, e := range s.Exprs {
		parts = append(parts, parse.PrintExpr(e))
	}
	switch s.Kind {
	case api.SLet:
		return "let " + s.Name + "=" + parts[0] + ";"
	case api.SSet:
		return "[" + parts[0] + "]=" + parts[1] + ";"
	case api.SAdd:
		return "[" + parts[0] + "]+=" + parts[1] + ";"
	case api.SSub:
		return "[" + parts[0] + "]-=" + parts[1] + ";"
	case api.SSwap:
		return "[" + parts[0] + "]<>[" + parts[1] + "];"
	case api.SIf:
		return "if " + parts[0] + "{" + shownStmts(s.Body) + "}else{" + shownStmts(s.Else) + "}"
	}
	word := map[int]string{api.SFor: "for ", api.SBack: "back "}[s.Kind]
	return word + s.Name + " in 0.." + strconv.Itoa(s.N) + "{" + shownStmts(s.Body) + "}"
}

// words is what instructions are called, with those that have a number that matters in capitals.
func words() []string {
	return []string{"?", "PUSH", "LOCAL", "KEEP", "cell", "set", "add", "sub", "swap", "DO", "neg", "not", "JUMP", "ZERO", "LOOP", "need", "give"}
}

// listed is a code's instructions in one line, and its numbers and loops ahead of them: a number that doesn't matter stands there
// only if it isn't 0.
func listed(c api.Code) string {
	var all []string
	for _, i := range c.Instrs {
		if i.Do < 1 || i.Do >= len(words()) {
			all = append(all, fmt.Sprint(i))
			continue
		}
		word := words()[i.Do]
		if small := strings.ToLower(word); small != word || i.N != 0 {
			word = small + " " + strconv.Itoa(i.N)
		}
		all = append(all, word)
	}
	head := fmt.Sprint(c.Params, " ", c.Locals)
	for _, l := range c.Loops {
		head += fmt.Sprint(" ", l)
	}
	return head + ": " + strings.Join(all, "; ")
}

// compiled is the code of a definition that must have one.
func compiled(t *testing.T, d api.Def) api.Code {
	t.Helper()
	c, err := code.Compile(d)
	if err != nil {
		t.Fatalf("%q: %v", shown(d), err)
	}
	return c
}

// makes tells of a definition whose code isn't listed as this.
func makes(t *testing.T, d api.Def, want string) {
	t.Helper()
	if got := listed(compiled(t, d)); got != want {
		t.Errorf("%q:\n%s, want\n%s", shown(d), got, want)
	}
}

// op tells of a text whose code isn't listed as this.
func op(t *testing.T, text, want string) {
	t.Helper()
	makes(t, parsed(t, text), want)
}

// body tells of statements, of an operation with the numbers i, k and v, whose code isn't this.
func body(t *testing.T, text, want string) {
	t.Helper()
	op(t, "op o(i,k,v){"+text+"}", "3 3: "+want)
}

// gives tells of a number, of the same operation, whose code isn't this.
func gives(t *testing.T, text, want string) {
	t.Helper()
	body(t, "give "+text+";", want+"; give")
}

// needs tells of a truth, of the same operation, whose code isn't this.
func needs(t *testing.T, text, want string) {
	t.Helper()
	body(t, "need "+text+";", want+"; need")
}

func TestExamples(t *testing.T) {
	op(t, "op f(i) { [i + 1 * 2] += 3; }", "1 1: local 0; push 2; do 1; push 3; add")
	op(t, "op g() { for i in 0..4 { [i] = 1; } }", "0 1 {0 4 2 5}: push 0; keep 0; local 0; push 1; set; loop 0")
}

// P11.1: an operation without statements

func TestNoStatements(t *testing.T) {
	op(t, "op o(){}", "0 0: ")
	op(t, "op o(a){}", "1 1: ")
	op(t, "op o(a,b,c,d,e,f,g,h){}", "8 8: ")
	op(t, "op o(){need true;}", "0 0: push 1; need")
	op(t, "op o(){give 7;}", "0 0: push 7; give")
	op(t, "op o(a){need a<3;give a;}", "1 1: local 0; push 3; do 6; need; local 0; give")
	makes(t, api.Def{}, "0 0: ")
	if c := compiled(t, parsed(t, "op o(){}")); len(c.Instrs)+len(c.Loops) != 0 {
		t.Error(c)
	}
}

// P11.1: each kind of expression

func TestNamesAndCells(t *testing.T) {
	gives(t, "i", "local 0")
	gives(t, "v", "local 2")
	gives(t, "[i]", "local 0; cell")
	gives(t, "[[k]]", "local 1; cell; cell")
	gives(t, "[[[i]+k]]", "local 0; cell; local 1; do 1; cell; cell")
	gives(t, "-i", "local 0; neg")
	gives(t, "--i", "local 0; neg; neg")
	gives(t, "-[i]", "local 0; cell; neg")
	needs(t, "!(i<k)", "local 0; local 1; do 6; not")
	needs(t, "!!(i<k)", "local 0; local 1; do 6; not; not")
}

// Each of the thirteen operators, its left ahead of its right.
func TestOperators(t *testing.T) {
	for i, sign := range strings.Fields("+ - * / %") {
		gives(t, "k"+sign+"i", "local 1; local 0; do "+strconv.Itoa(i+1))
		gives(t, "i"+sign+"3", "local 0; push 3; do "+strconv.Itoa(i+1))
		gives(t, "3"+sign+"[i]", "push 3; local 0; cell; do "+strconv.Itoa(i+1))
	}
	for i, sign := range strings.Fields("< <= > >= == !=") {
		needs(t, "k"+sign+"i", "local 1; local 0; do "+strconv.Itoa(i+6))
		needs(t, "[3]"+sign+"0", "push 3; cell; push 0; do "+strconv.Itoa(i+6))
	}
	for i, sign := range strings.Fields("== != && ||") {
		needs(t, "(k<v)"+sign+"!(i>v)", "local 1; local 2; do 6; local 0; local 2; do 8; not; do "+strconv.Itoa(i+10))
	}
}

// What is in an expression comes from the left, what is innermost first.
func TestOrderOfParts(t *testing.T) {
	gives(t, "i-k-v", "local 0; local 1; do 2; local 2; do 2")
	gives(t, "i-(k-v)", "local 0; local 1; local 2; do 2; do 2")
	gives(t, "i+k*v", "local 0; local 1; local 2; do 3; do 1")
	gives(t, "(i+k)*v", "local 0; local 1; do 1; local 2; do 3")
	gives(t, "[i]*[k]-[v+1]%-i", "local 0; cell; local 1; cell; do 3; local 2; push 1; do 1; cell; local 0; neg; do 5; do 2")
	needs(t, "i<k||k<v&&!(v<i)", "local 0; local 1; do 6; local 1; local 2; do 6; local 2; local 0; do 6; not; do 12; do 13")
}

// P11.1 and P11.2: which expressions are folded, and to what

func TestFoldedNumbers(t *testing.T) {
	for text, want := range map[string]int{
		"0": 0, "7": 7, "9223372036854775807": greatest, "-1": -1, "--1": 1, "-0": 0, "1+2": 3, "1-2": -1, "2*3": 6, "7/2": 3, "7%2": 1, "-7/2": -3, "-7%2": -1, "7/-2": -3, "7%-2": 1,
		// By nought.
		"1/0": 0, "1%0": 0, "0/0": 0, "0%0": 0, "-1/0": 0, "9223372036854775807%(1-1)": 0, "5/(3/4)": 0,
		// Numbers that wrap around.
		"9223372036854775807+1": least, "-9223372036854775807-1": least, "-9223372036854775807-2": greatest, "9223372036854775807*2": -2, "-(-9223372036854775807-1)": least,
		"(-9223372036854775807-1)/-1": least, "(-9223372036854775807-1)%-1": 0, "9223372036854775807*9223372036854775807": 1, "4294967296*4294967296": 0,
		"1-2-3": -4, "1-(2-3)": 2, "(1+2)*(3+4)-5*-6": 51, "((((((((((1))))))))))": 1,
	} {
		gives(t, text, "push "+strconv.Itoa(want))
	}
}

func TestFoldedTruths(t *testing.T) {
	for text, want := range map[string]int{
		"true": 1, "false": 0, "!true": 0, "!false": 1, "!!true": 1, "1<2": 1, "2<1": 0, "1<1": 0, "1<=1": 1, "2<=1": 0, "2>1": 1, "1>1": 0, "1>=1": 1, "1>=2": 0, "1==1": 1, "1==2": 0, "1!=2": 1, "1!=1": 0,
		"true==true": 1, "true==false": 0, "false==false": 1, "true!=false": 1, "false!=false": 0, "true&&true": 1, "true&&false": 0, "false&&true": 0,
		"true||false": 1, "false||false": 0, "false||true": 1, "(1<2)==true": 1, "(1<2)==(4>3)": 1, "true!=(0==0)": 0, "1/0==0&&!(-1>=0)": 1,
		"9223372036854775807+1<0": 1,
	} {
		needs(t, text, "push "+strconv.Itoa(want))
		body(t, "if "+text+"{}", "push "+strconv.Itoa(want)+"; zero 2")
		op(t, "op o(){let a="+text+";}", "0 1: push "+strconv.Itoa(want)+"; keep 0")
	}
}

// The whole of what has neither names nor cells is folded, and no more than that.
func TestFoldedParts(t *testing.T) {
	gives(t, "i+1*2", "local 0; push 2; do 1")
	gives(t, "i+(1+2)*-(3-4)", "local 0; push 3; do 1")
	gives(t, "1+2+i", "push 3; local 0; do 1")
	gives(t, "1+i+2", "push 1; local 0; do 1; push 2; do 1")
	gives(t, "i+1+2", "local 0; push 1; do 1; push 2; do 1")
	gives(t, "i*0", "local 0; push 0; do 3")
	gives(t, "0*i", "push 0; local 0; do 3")
	gives(t, "i/(1-1)", "local 0; push 0; do 4")
	gives(t, "i-i", "local 0; local 0; do 2")
	gives(t, "-(1+2)*i", "push -3; local 0; do 3")
	gives(t, "-(i+(2-1))", "local 0; push 1; do 1; neg")
	gives(t, "9223372036854775807*2-i", "push -2; local 0; do 2")
	needs(t, "true&&i<k", "push 1; local 0; local 1; do 6; do 12")
	needs(t, "i<k||1<2||true", "local 0; local 1; do 6; push 1; do 13; push 1; do 13")
	needs(t, "!(true&&!(2<1))==(i<1)", "push 0; local 0; push 1; do 6; do 10")
	needs(t, "false&&(i<k&&!true)", "push 0; local 0; local 1; do 6; push 0; do 12; do 12")
	needs(t, "true!=!(i<k)", "push 1; local 0; local 1; do 6; not; do 11")
}

// A cell isn't folded, what its index is may be.
func TestFoldedIndexes(t *testing.T) {
	gives(t, "[0]", "push 0; cell")
	gives(t, "[1+2*3]", "push 7; cell")
	gives(t, "[-1]", "push -1; cell")
	gives(t, "[60]", "push 60; cell")
	gives(t, "[[2-1]]", "push 1; cell; cell")
	gives(t, "-[0]+(1+1)", "push 0; cell; neg; push 2; do 1")
	gives(t, "[0]*0", "push 0; cell; push 0; do 3")
	gives(t, "1+2+[3+4]", "push 3; push 7; cell; do 1")
	needs(t, "!([1]==1+1)", "push 1; cell; push 2; do 10; not")
	body(t, "[1+1]=[2*2];", "push 2; push 4; cell; set")
	body(t, "[-1/0]<>[9223372036854775807+1];", "push 0; push "+strconv.Itoa(least)+"; swap")
}

// A name that is known to have been given a number isn't one.
func TestLetsArentFolded(t *testing.T) {
	op(t, "op o(){let a=1+2;let b=a+1*2;give a*b;}", "0 2: push 3; keep 0; local 0; push 2; do 1; keep 1; local 0; local 1; do 3; give")
	op(t, "op o(){let a=true;let b=a&&1<2;if a==b{}}", "0 2: push 1; keep 0; local 0; push 1; do 12; keep 1; local 0; local 1; do 10; zero 10")
	op(t, "op o(){for a in 0..1{[0]=a;}}", "0 1 {0 1 2 5}: push 0; keep 0; push 0; local 0; set; loop 0")
}

// P11.1: needs, each kind of statement, what is given

func TestNeeds(t *testing.T) {
	body(t, "need i<k;need true;need [i]==[k];", "local 0; local 1; do 6; need; push 1; need; local 0; cell; local 1; cell; do 10; need")
	body(t, "need false;[i]=k;give v;", "push 0; need; local 0; local 1; set; local 2; give")
}

func TestStatements(t *testing.T) {
	body(t, "[i]=k;", "local 0; local 1; set")
	body(t, "[i]+=k;", "local 0; local 1; add")
	body(t, "[i]-=k;", "local 0; local 1; sub")
	body(t, "[i]<>[k];", "local 0; local 1; swap")
	body(t, "[k+1]<>[[i]];", "local 1; push 1; do 1; local 0; cell; swap")
	body(t, "[[i]]=[i]+1;", "local 0; cell; local 0; cell; push 1; do 1; set")
	body(t, "[i]+=-v;[k]-=v;[0]=1;", "local 0; local 2; neg; add; local 1; local 2; sub; push 0; push 1; set")
	op(t, "op o(i){let a=i;let b=i<a;let c=[a];}", "1 4: local 0; keep 1; local 0; local 1; do 6; keep 2; local 1; cell; keep 3")
}

func TestGive(t *testing.T) {
	body(t, "give 1+2;", "push 3; give")
	body(t, "[i]=1;give [i];", "local 0; push 1; set; local 0; cell; give")
}

func TestIfs(t *testing.T) {
	body(t, "if i<k{[0]=1;}", "local 0; local 1; do 6; zero 7; push 0; push 1; set")
	body(t, "if i<k{[0]=1;}else{[2]+=3;}", "local 0; local 1; do 6; zero 8; push 0; push 1; set; jump 11; push 2; push 3; add")
	body(t, "if i<k{}", "local 0; local 1; do 6; zero 4")
	body(t, "if i<k{}else{}", "local 0; local 1; do 6; zero 4")
	body(t, "if i<k{[0]=1;}else{}", "local 0; local 1; do 6; zero 7; push 0; push 1; set")
	body(t, "if i<k{}else{[0]=1;}", "local 0; local 1; do 6; zero 5; jump 8; push 0; push 1; set")
	body(t, "if i<k{[0]=1;}[4]-=5;", "local 0; local 1; do 6; zero 7; push 0; push 1; set; push 4; push 5; sub")
	body(t, "[4]-=5;if i<k{[0]=1;}", "push 4; push 5; sub; local 0; local 1; do 6; zero 10; push 0; push 1; set")
	// Of a condition that is folded both blocks are there.
	body(t, "if true{[0]=1;}else{[2]=3;}", "push 1; zero 6; push 0; push 1; set; jump 9; push 2; push 3; set")
	body(t, "if 2<1{[0]=1;}", "push 0; zero 5; push 0; push 1; set")
}

// An else with a statement that has no code has its jump all the same.
func TestElseWithoutCode(t *testing.T) {
	op(t, "op o(){if true{[0]=1;}else{for a in 0..0{[2]=3;}}}", "0 1: push 1; zero 6; push 0; push 1; set; jump 6")
	op(t, "op o(){if true{}else{for a in 0..0{}}}", "0 1: push 1; zero 3; jump 3")
	op(t, "op o(){if true{for a in 0..0{}}}", "0 1: push 1; zero 2")
	op(t, "op o(){if true{for a in 0..0{}}else{}}", "0 1: push 1; zero 2")
	op(t, "op o(){if true{}else{for a in 0..0{}for b in 0..0{}}[0]=1;}", "0 2: push 1; zero 3; jump 3; push 0; push 1; set")
}

func TestIfsWithin(t *testing.T) {
	body(t, "if i<k{if k<v{[0]=1;}}", "local 0; local 1; do 6; zero 11; local 1; local 2; do 6; zero 11; push 0; push 1; set")
	body(t, "if i<k{if k<v{[0]=1;}else{[2]=3;}}else{[4]=5;}",
		"local 0; local 1; do 6; zero 16; local 1; local 2; do 6; zero 12; push 0; push 1; set; jump 15; push 2; push 3; set; jump 19; push 4; push 5; set")
	body(t, "if true{}else{if false{}else{if true{[0]=1;}}}", "push 1; zero 3; jump 11; push 0; zero 6; jump 11; push 1; zero 11; push 0; push 1; set")
	body(t, "if true{if true{}else{[0]=1;}}[2]=3;", "push 1; zero 8; push 1; zero 5; jump 8; push 0; push 1; set; push 2; push 3; set")
	body(t, "if true{}if true{}if true{}", "push 1; zero 2; push 1; zero 4; push 1; zero 6")
}

// P11.1: loops

func TestLoops(t *testing.T) {
	op(t, "op o(){for a in 0..1{}}", "0 1 {0 1 2 2}: push 0; keep 0; loop 0")
	op(t, "op o(){for a in 0..64{[a]+=a;}}", "0 1 {0 64 2 5}: push 0; keep 0; local 0; local 0; add; loop 0")
	op(t, "op o(i){[i]=1;for a in 0..3{[a]=i;}give i;}", "1 2 {1 3 5 8}: local 0; push 1; set; push 0; keep 1; local 1; local 0; set; loop 0; local 0; give")
	// One behind the other.
	op(t, "op o(){for a in 0..2{}for b in 0..3{}for c in 0..4{[c]=1;}}",
		"0 3 {0 2 2 2} {1 3 5 5} {2 4 8 11}: push 0; keep 0; loop 0; push 0; keep 1; loop 1; push 0; keep 2; local 2; push 1; set; loop 2")
	// One within another one ends first.
	op(t, "op o(){for a in 0..2{for b in 0..3{[a]<>[b];}}}", "0 2 {1 3 4 7} {0 2 2 8}: push 0; keep 0; push 0; keep 1; local 0; local 1; swap; loop 0; loop 1")
	op(t, "op o(){for a in 0..2{for b in 0..3{for c in 0..4{}}}for d in 0..5{}}",
		"0 4 {2 4 6 6} {1 3 4 7} {0 2 2 8} {3 5 11 11}: push 0; keep 0; push 0; keep 1; push 0; keep 2; loop 0; loop 1; loop 2; push 0; keep 3; loop 3")
	op(t, "op o(){for a in 0..2{[a]=0;for b in 0..3{}[a]=1;for c in 0..4{}[a]=2;}}",
		"0 3 {1 3 7 7} {2 4 13 13} {0 2 2 17}: push 0; keep 0; local 0; push 0; set; push 0; keep 1; loop 0; local 0; push 1; set; push 0; keep 2; loop 1; local 0; push 2; set; loop 2")
	// Within ifs.
	op(t, "op o(i){if i<1{for a in 0..2{}}else{for b in 0..3{}}}",
		"1 3 {1 2 6 6} {2 3 10 10}: local 0; push 1; do 6; zero 8; push 0; keep 1; loop 0; jump 11; push 0; keep 2; loop 1")
	op(t, "op o(i){for a in 0..2{if i<a{[0]=1;}else{[2]=3;}}}",
		"1 2 {1 2 2 13}: push 0; keep 1; local 0; local 1; do 6; zero 10; push 0; push 1; set; jump 13; push 2; push 3; set; loop 0")
}

// A loop of no round has no code, and no number; the names in it have their locals.
func TestLoopsOfNoRound(t *testing.T) {
	op(t, "op o(){for a in 0..0{}}", "0 1: ")
	op(t, "op o(){for a in 0..0{[a]=1;}give 2;}", "0 1: push 2; give")
	op(t, "op o(i){for a in 0..0{let b=a;for c in 0..5{let d=c+i;[d]=1;}}let e=i;[e]=2;}", "1 6: local 0; keep 5; local 5; push 2; set")
	op(t, "op o(){for a in 0..3{for b in 0..0{for c in 0..4{}}[a]=1;}for d in 0..2{}}",
		"0 4 {0 3 2 5} {3 2 8 8}: push 0; keep 0; local 0; push 1; set; loop 0; push 0; keep 3; loop 1")
	op(t, "op o(){for a in 0..0{if a<1{[a]=1;}else{for b in 0..2{}}}for c in 0..2{for d in 0..0{}}}", "0 4 {2 2 2 2}: push 0; keep 2; loop 0")
}

// P11.1: loops that run backwards

func TestBackwardLoops(t *testing.T) {
	makes(t, back(parsed(t, "op o(){for a in 0..4{[a]-=1;}}")), "0 2 {1 4 2 9}: push 0; keep 1; push 3; local 1; do 2; keep 0; local 0; push 1; sub; loop 0")
	makes(t, back(parsed(t, "op o(){for a in 0..1{}}")), "0 2 {1 1 2 6}: push 0; keep 1; push 0; local 1; do 2; keep 0; loop 0")
	makes(t, back(parsed(t, "op o(i){for a in 0..64{[a]=i;}}")), "1 3 {2 64 2 9}: push 0; keep 2; push 63; local 2; do 2; keep 1; local 1; local 0; set; loop 0")
	// Of no round: no code, but a local for its counter.
	makes(t, back(parsed(t, "op o(){for a in 0..0{[a]=1;}}")), "0 2: ")
	makes(t, back(parsed(t, "op o(){for a in 0..0{}for b in 0..2{}}")), "0 4 {3 2 2 6}: push 0; keep 3; push 1; local 3; do 2; keep 1; loop 0")
	// Several: their counters come behind all names, in the order of the loops.
	makes(t, back(parsed(t, "op o(i){for a in 0..2{let b=a;}for c in 0..3{}let d=i;}")),
		"1 7 {5 2 2 8} {6 3 11 15}: push 0; keep 5; push 1; local 5; do 2; keep 1; local 1; keep 2; loop 0; push 0; keep 6; push 2; local 6; do 2; keep 3; loop 1; local 0; keep 4")
	// One within another one: the outer one's counter comes first, the inner one's number does.
	makes(t, back(parsed(t, "op o(){for a in 0..2{for b in 0..3{}}}")),
		"0 4 {3 3 8 12} {2 2 2 13}: push 0; keep 2; push 1; local 2; do 2; keep 0; push 0; keep 3; push 2; local 3; do 2; keep 1; loop 0; loop 1")
}

// One of each kind within the other, and beside it.
func TestLoopsOfBothKinds(t *testing.T) {
	d := parsed(t, "op o(){for a in 0..2{for b in 0..3{[a]<>[b];}}}")
	d.Body[0].Body[0].Kind = api.SBack
	makes(t, d, "0 3 {2 3 4 11} {0 2 2 12}: push 0; keep 0; push 0; keep 2; push 2; local 2; do 2; keep 1; local 0; local 1; swap; loop 0; loop 1")
	d.Body[0].Body[0].Kind, d.Body[0].Kind = api.SFor, api.SBack
	makes(t, d, "0 3 {1 3 8 11} {2 2 2 12}: push 0; keep 2; push 1; local 2; do 2; keep 0; push 0; keep 1; local 0; local 1; swap; loop 0; loop 1")
	d = parsed(t, "op o(){for a in 0..2{}for b in 0..3{}for c in 0..4{}}")
	d.Body[1].Kind = api.SBack
	makes(t, d, "0 4 {0 2 2 2} {3 3 5 9} {2 4 12 12}: push 0; keep 0; loop 0; push 0; keep 3; push 2; local 3; do 2; keep 1; loop 1; push 0; keep 2; loop 2")
}

// P11.1: which local each name has

func TestLocals(t *testing.T) {
	// Parameters come first, whichever is asked first; then the others, as they are declared.
	op(t, "op o(b,a){let d=a;let c=b;[c]=d;}", "2 4: local 1; keep 2; local 0; keep 3; local 3; local 2; set")
	// Within blocks, behind them, and of both blocks of an if.
	op(t, "op o(i){if i<1{let a=1;[a]=2;}else{let b=3;[b]=4;}let c=5;[c]=6;}",
		"1 4: local 0; push 1; do 6; zero 10; push 1; keep 1; local 1; push 2; set; jump 15; push 3; keep 2; local 2; push 4; set; push 5; keep 3; local 3; push 6; set")
	// A loop's name is declared ahead of those in its block.
	op(t, "op o(){for b in 0..2{let a=b;for d in 0..3{let c=d;}}let e=1;}",
		"0 5 {2 3 6 8} {0 2 2 9}: push 0; keep 0; local 0; keep 1; push 0; keep 2; local 2; keep 3; loop 0; loop 1; push 1; keep 4")
	// A let's name behind all names that its expression has.
	op(t, "op o(a){let b=a;let c=b+a;let d=c-b;}", "1 4: local 0; keep 1; local 1; local 0; do 1; keep 2; local 2; local 1; do 2; keep 3")
}

func TestMostNames(t *testing.T) {
	op(t, "op o(a,b,c,d,e,f,g,h){let i=h;let j=i;let k=j;let l=k;let m=l;let n=m;let p=n;let q=p;give q;}",
		"8 16: local 7; keep 8; local 8; keep 9; local 9; keep 10; local 10; keep 11; local 11; keep 12; local 12; keep 13; local 13; keep 14; local 14; keep 15; local 15; give")
	// Sixteen loops that run backwards have twice as many locals.
	text, want := "", ""
	loops := ""
	for i := range 16 {
		text += "for n" + strconv.Itoa(i) + " in 0..2{}"
		want += fmt.Sprintf("push 0; keep %d; push 1; local %d; do 2; keep %d; loop %d; ", 16+i, 16+i, i, i)
		loops += fmt.Sprint(" ", api.Loop{Local: 16 + i, N: 2, From: 7*i + 2, To: 7*i + 6})
	}
	makes(t, back(parsed(t, "op o(){"+text+"}")), "0 32"+loops+": "+strings.TrimSuffix(want, "; "))
	refused(t, "op o(){"+text+"let x=1;}")
}

// P11.1: turned definitions

func TestTurned(t *testing.T) {
	u := turned(t, parsed(t, "op f(i) { let a = i * 2; [a] += 1; for k in 0..3 { [k] <> [a]; } }"))
	makes(t, u, "1 4 {3 3 6 13}: local 0; push 2; do 3; keep 1; push 0; keep 3; push 2; local 3; do 2; keep 2; local 2; local 1; swap; loop 0; local 1; push 1; sub")
	// Needs and what is given aren't there any more; turned again neither.
	d := parsed(t, "op f(i,v){need i<60;[i]+=v;if v<0{[0]<>[i];}give v;}")
	makes(t, turned(t, d), "2 2: local 1; push 0; do 6; zero 7; push 0; local 0; swap; local 0; local 1; sub")
	makes(t, turned(t, turned(t, d)), "2 2: local 0; local 1; add; local 1; push 0; do 6; zero 10; push 0; local 0; swap")
	makes(t, turned(t, turned(t, parsed(t, "op b(){for i in 0..4{[i]+=1;}}"))), "0 1 {0 4 2 5}: push 0; keep 0; local 0; push 1; add; loop 0")
}

// The names of a turned definition have the locals that its text gives them, whatever order its statements stand in; and the counters
// come in that order, too.
func TestLocalsOfTurned(t *testing.T) {
	round := func(text, want string) {
		t.Helper()
		makes(t, turned(t, parsed(t, text)), want)
	}
	// A let that comes ahead of a loop that its text has first.
	round("op f() { for i in 0..2 { [0] += 1; } let a = 4; [1] += a; }",
		"0 3 {2 2 7 14}: push 4; keep 1; push 1; local 1; sub; push 0; keep 2; push 1; local 2; do 2; keep 0; push 0; push 1; sub; loop 0")
	round("op f(i){for k in 0..3{[k]+=i;}let a=i;[a]-=1;}",
		"1 4 {3 3 7 14}: local 0; keep 2; local 2; push 1; add; push 0; keep 3; push 2; local 3; do 2; keep 1; local 1; local 0; sub; loop 0")
	// Loops one behind the other, in either order.
	round("op g() { for i in 0..2 { [i] += 1; } for j in 0..3 { [j] += 2; } }",
		"0 4 {3 3 2 9} {2 2 12 19}: push 0; keep 3; push 2; local 3; do 2; keep 1; local 1; push 2; sub; loop 0; "+
			"push 0; keep 2; push 1; local 2; do 2; keep 0; local 0; push 1; sub; loop 1")
	round("op g() { for j in 0..2 { [j] += 1; } for i in 0..3 { [i] += 2; } }",
		"0 4 {3 3 2 9} {2 2 12 19}: push 0; keep 3; push 2; local 3; do 2; keep 1; local 1; push 2; sub; loop 0; "+
			"push 0; keep 2; push 1; local 2; do 2; keep 0; local 0; push 1; sub; loop 1")
	// Names within blocks.
	round("op h() { if 1 < 2 { let a = 1; [a] += 1; } for i in 0..2 { let b = 2; [b] += 1; } }",
		"0 4 {3 2 2 11}: push 0; keep 3; push 1; local 3; do 2; keep 1; push 2; keep 2; local 2; push 1; sub; loop 0; push 1; zero 19; push 1; keep 0; local 0; push 1; sub")
	round("op h(i){if i<1{for a in 0..2{}let b=i;[b]+=1;}else{for c in 0..3{}let d=i;[d]+=2;}let e=i;[e]+=3;}",
		"1 8 {6 2 16 20} {7 3 29 33}: local 0; keep 5; local 5; push 3; sub; local 0; push 1; do 6; zero 22; local 0; keep 2; local 2; push 1; sub; push 0; keep 6; push 1; local 6; do 2; keep 1; loop 0; "+
			"jump 34; local 0; keep 4; local 4; push 2; sub; push 0; keep 7; push 2; local 7; do 2; keep 3; loop 1")
	// Loops within one another, and beside.
	round("op h(){for a in 0..2{for b in 0..3{}for c in 0..4{}}for d in 0..5{}}",
		"0 8 {7 5 2 6} {6 4 15 19} {5 3 22 26} {4 2 9 27}: push 0; keep 7; push 4; local 7; do 2; keep 3; loop 0; push 0; keep 4; push 1; local 4; do 2; keep 0; "+
			"push 0; keep 6; push 3; local 6; do 2; keep 2; loop 1; push 0; keep 5; push 2; local 5; do 2; keep 1; loop 2; loop 3")
	// Of no round: no code, but locals and a counter as the text has them.
	round("op h(){for a in 0..0{let b=a;[b]+=1;}for c in 0..2{}let d=1;}", "0 6 {5 2 4 8}: push 1; keep 3; push 0; keep 5; push 1; local 5; do 2; keep 2; loop 0")
}

// Turned again a definition has its lets ahead, and its text's locals still.
func TestLocalsOfTurnedTwice(t *testing.T) {
	u := turned(t, turned(t, parsed(t, "op f(){for a in 0..2{[a]+=1;}let b=3;for c in 0..4{[c]-=b;}let d=b;[d]+=5;}")))
	makes(t, u, "0 4 {0 2 6 9} {2 4 12 15}: push 3; keep 1; local 1; keep 3; push 0; keep 0; local 0; push 1; add; loop 0; push 0; keep 2; local 2; local 1; sub; loop 1; local 3; push 5; add")
}

// Places are numbers of any length: the text's order is theirs, and not that of their digits.
func TestLocalsAtFarPlaces(t *testing.T) {
	text := "op f(){for a in 0..2{" + strings.Repeat(" ", 80) + "}for b in 0..3{" + strings.Repeat(" ", 300) + "}let c=1;}"
	makes(t, turned(t, parsed(t, text)), "0 5 {4 3 4 8} {3 2 11 15}: push 1; keep 2; push 0; keep 4; push 2; local 4; do 2; keep 1; loop 0; push 0; keep 3; push 1; local 3; do 2; keep 0; loop 1")
}

// P11.1: the error

// refusedDef tells of a definition that isn't refused, or is answered something beside the error.
func refusedDef(t *testing.T, d api.Def) {
	t.Helper()
	if c, err := code.Compile(d); err != api.ErrCode || !reflect.DeepEqual(c, api.Code{}) {
		t.Errorf("%q: %v, %v", shown(d), c, err)
	}
}

func refused(t *testing.T, texts ...string) {
	t.Helper()
	for _, text := range texts {
		refusedDef(t, parsed(t, text))
	}
}

// What Check refuses is ErrCode, and not the fault itself.
func TestFaults(t *testing.T) {
	refused(t, "op o(a,a){}", "op o(a,b,c,d,e,f,g,h,i){}", "op o(){[x]+=1;}", "op o(){[0]=x;}", "op o(){[0]<>[x];}", "op o(){let a=a;}", "op o(a){let a=1;}", "op o(){give x;}",
		"op o(){need x<1;}", "op o(){if x{}}", "op o(){if 1{}}", "op o(){[true]=1;}", "op o(){[0]-=1<2;}", "op o(){let a=1+true;}", "op o(){need 1;}", "op o(){give true;}",
		"op o(){for a in 0..65{}}", "op o(a){for a in 0..2{}}", "op o(){if true{let a=1;}[a]=1;}", "op o(){[a]=1;let a=1;}", "op o(){for a in 0..2{}[a]=1;}",
		"op o(){for a in 0..64{for b in 0..31{}}}", "op o(){for a in 0..0{[x]=1;}}", "op o(){for a in 0..0{for b in 0..65{}}}", "op o(){if true{}else{[x]=1;}}")
	refusedDef(t, api.Def{Name: "x", Params: []string{"a", "a"}})
	// With a loop that runs backwards.
	refusedDef(t, back(parsed(t, "op o(){for a in 0..65{}}")))
	refusedDef(t, back(parsed(t, "op o(){for a in 0..3{}[a]=1;}")))
	refusedDef(t, back(parsed(t, "op o(){for a in 0..3{for a in 0..3{}}}")))
	refusedDef(t, back(parsed(t, "op o(){for a in 0..64{for b in 0..31{}}}")))
}

// What can't be turned round has a code.
func TestNotTurned(t *testing.T) {
	body(t, "[i]=[k];", "local 0; local 1; cell; set")
	if _, err := invert.Turn(parsed(t, "op o(i,k){[i]=[k];}")); err == nil {
		t.Error("turned")
	}
}
