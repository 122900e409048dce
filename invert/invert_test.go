package invert_test

import (
	"reflect"
	"slices"
	"strconv"
	"strings"
	"testing"

	"palimpsest/api"
	"palimpsest/invert"
	"palimpsest/parse"
)

// The call must have just this signature: the layers above are built on it.
var _ func(d api.Def) (api.Def, error) = invert.Turn

// parsed is the definition of a text that must have one.
func parsed(t *testing.T, text string) api.Def {
	t.Helper()
	d, err := parse.Parse(text)
	if err != nil {
		t.Fatalf("%q: %v", text, err)
	}
	return d
}

// turned is what Turn answers of a definition that can be turned round.
func turned(t *testing.T, d api.Def) api.Def {
	t.Helper()
	u, err := invert.Turn(d)
	if err != nil {
		t.Fatalf("%q: %v", shown(d), err)
	}
	return u
}

// shown is a definition as a text, with "back" for a loop that runs backwards, which no text of the language has.
func shown(d api.Def) string {
	text := "op " + d.Name + "(" + strings.Join(d.Params, ",") + "){"
	for _, e := range d.Needs {
		text += "need " + parse.PrintExpr(e) + ";"
	}
	text += shownStmts(d.Body)
	for _, e := range d.Give {
		text += "give " + parse.PrintExpr(e) + ";"
	}
	return text + "}"
}

func shownStmts(list []api.Stmt) string {
	text := ""
	for _, s := range list {
		text += shownStmt(s)
	}
	return text
}

func shownStmt(s api.Stmt) string {
	var parts []string
	for _, e := range s.Exprs {
		parts = append(parts, parse.PrintExpr(e))
	}
	switch s.Kind {
	case api.SLet:
		return "let " + s.Name + "=" + parts[0] + ";"
	case api.SSet:
		return "[" + parts[0] + "]=" + parts[1] + ";"
	case api.SAdd:
		return "[" + parts[0] + "]+=" + parts[1] + ";"
	case api.SSub:
		return "[" + parts[0] + "]-=" + parts[1] + ";"
	case api.SSwap:
		return "[" + parts[0] + "]<>[" + parts[1] + "];"
	case api.SIf:
		return "if " + parts[0] + "{" + shownStmts(s.Body) + "}else{" + shownStmts(s.Else) + "}"
	}
	word := map[int]string{api.SFor: "for ", api.SBack: "back "}[s.Kind]
	return word + s.Name + " in 0.." + strconv.Itoa(s.N) + "{" + shownStmts(s.Body) + "}"
}

// turns tells of a text whose turned operation isn't shown as this.
func turns(t *testing.T, text, want string) {
	t.Helper()
	if got := shown(turned(t, parsed(t, text))); got != want {
		t.Errorf("%q: turned %q, want %q", text, got, want)
	}
}

// body tells of statements, of an operation with the numbers i, k and v, that aren't turned to these.
func body(t *testing.T, text, want string) {
	t.Helper()
	turns(t, "op o(i,k,v){"+text+"}", "op o(i,k,v){"+want+"}")
}

// refusedDef tells of a definition that isn't refused, or is answered something beside the error.
func refusedDef(t *testing.T, d api.Def) {
	t.Helper()
	if u, err := invert.Turn(d); err != api.ErrCode || !reflect.DeepEqual(u, api.Def{}) {
		t.Errorf("%q: %q, %v", shown(d), shown(u), err)
	}
}

func refused(t *testing.T, texts ...string) {
	t.Helper()
	for _, text := range texts {
		refusedDef(t, parsed(t, text))
	}
}

// P10.1: ordinary definitions

func TestExamples(t *testing.T) {
	turns(t, "op f(i) { let a = i * 2; [a] += 1; for k in 0..3 { [k] <> [a]; } }", "op f(i){let a=i*2;back k in 0..3{[k]<>[a];}[a]-=1;}")
	refused(t, "op p(i) { [i] = 1; }")
}

func TestEachStatement(t *testing.T) {
	body(t, "let a=i+1;", "let a=i+1;")
	body(t, "[i]+=v;", "[i]-=v;")
	body(t, "[i]-=v;", "[i]+=v;")
	body(t, "[i]<>[k];", "[i]<>[k];")
	body(t, "if i<k{[i]+=v;}", "if i<k{[i]-=v;}else{}")
	body(t, "for a in 0..7{[a]+=v;}", "back a in 0..7{[a]-=v;}")
}

// The statement that is done last is undone first.
func TestOrder(t *testing.T) {
	body(t, "[i]+=1;[i]-=2;", "[i]+=2;[i]-=1;")
	body(t, "[1]+=1;[2]-=2;[3]<>[4];[5]-=5;[6]+=6;", "[6]-=6;[5]+=5;[3]<>[4];[2]+=2;[1]-=1;")
	body(t, "[1]<>[2];[2]<>[3];[3]<>[4];", "[3]<>[4];[2]<>[3];[1]<>[2];")
	body(t, "if true{}[1]+=1;for a in 0..2{}", "back a in 0..2{}[1]-=1;if true{}else{}")
	body(t, strings.Repeat("[1]+=1;[2]-=1;", 20), strings.Repeat("[2]+=1;[1]-=1;", 20))
}

func TestIfs(t *testing.T) {
	body(t, "if i<k{[1]+=1;[2]-=2;}else{[3]<>[4];[5]+=5;}", "if i<k{[2]+=2;[1]-=1;}else{[5]-=5;[3]<>[4];}")
	body(t, "if i<k{}else{[3]-=4;[5]+=5;}", "if i<k{}else{[5]-=5;[3]+=4;}")
	body(t, "if i<k{[3]-=4;[5]+=5;}else{}", "if i<k{[5]-=5;[3]+=4;}else{}")
	body(t, "if i<k{}else{}", "if i<k{}else{}")
	body(t, "if i<k{}", "if i<k{}else{}")
	body(t, "if i<k{[1]+=1;}else{if k<v{[2]+=2;}else{if v<i{[3]+=3;}}}[4]+=4;",
		"[4]-=4;if i<k{[1]-=1;}else{if k<v{[2]-=2;}else{if v<i{[3]-=3;}else{}}}")
	body(t, "if i<k{if !(k==v){[1]+=1;[2]+=2;}[3]+=3;}", "if i<k{[3]-=3;if !(k==v){[2]-=2;[1]-=1;}else{}}else{}")
}

func TestLoops(t *testing.T) {
	body(t, "for a in 0..0{}", "back a in 0..0{}")
	body(t, "for a in 0..64{[a]+=a;}", "back a in 0..64{[a]-=a;}")
	body(t, "for a in 0..3{for b in 0..4{[a]<>[b];[a*4+b]+=v;}[a]-=1;}", "back a in 0..3{[a]+=1;back b in 0..4{[a*4+b]-=v;[a]<>[b];}}")
	body(t, "for a in 0..3{if a<i{[a]+=1;[k]+=2;}else{for b in 0..2{[b]-=3;}[k]+=4;}}",
		"back a in 0..3{if a<i{[k]-=2;[a]-=1;}else{[k]-=4;back b in 0..2{[b]+=3;}}}")
	body(t, "for a in 0..2{}for b in 0..3{[b]+=1;}", "back b in 0..3{[b]-=1;}back a in 0..2{}")
}

func TestLets(t *testing.T) {
	body(t, "let a=i;let b=a+1;let c=a<b;", "let a=i;let b=a+1;let c=a<b;")
	body(t, "let a=i;[a]+=1;let b=a+1;[b]+=a;let c=b*b;[c]-=b;", "let a=i;let b=a+1;let c=b*b;[c]+=b;[b]-=a;[a]-=1;")
	body(t, "[1]+=1;let a=i;", "let a=i;[1]-=1;")
	body(t, "[1]+=1;[2]+=2;let a=i;[a]+=3;", "let a=i;[a]-=3;[2]-=2;[1]-=1;")
	// A let comes to stand ahead of a block of which it knows nothing, but of no name that it knows.
	body(t, "for a in 0..3{[a]+=1;}let b=i+1;if i<b{[b]-=1;}let c=b<k;if c{[1]<>[b];}",
		"let b=i+1;let c=b<k;if c{[1]<>[b];}else{}if i<b{[b]+=1;}else{}back a in 0..3{[a]-=1;}")
	// Each block has its own lets in front.
	body(t, "[1]+=1;for a in 0..3{[a]+=1;let b=a+i;[b]+=2;if a<b{[b]-=3;let c=b-a;[c]+=4;}else{let d=i;[d]-=5;let e=d+b;[e]+=6;}let f=b;}"+
		"let g=k;[g]+=7;",
		"let g=k;[g]-=7;back a in 0..3{let b=a+i;let f=b;if a<b{let c=b-a;[c]-=4;[b]+=3;}else{let d=i;let e=d+b;[e]-=6;[d]+=5;}"+
			"[b]-=2;[a]-=1;}[1]-=1;")
}

// Expressions are as they were, also those that are turned over when they are run: taking minus 1, say.
func TestExpressionsStay(t *testing.T) {
	body(t, "[-i]+=-v;[i+-1]-=--v*2-k;", "[i+-1]+=--v*2-k;[-i]-=-v;")
	body(t, "let a=i<k&&!(k<=v)||true!=false;[i%3]<>[k/0];if !a==a{}", "let a=i<k&&!(k<=v)||true!=false;if !a==a{}else{}[i%3]<>[k/0];")
	body(t, "[9223372036854775807]+=9223372036854775807;", "[9223372036854775807]-=9223372036854775807;")
	body(t, "[i]<>[k];[k]<>[i];", "[k]<>[i];[i]<>[k];")
}

func TestNameAndParameters(t *testing.T) {
	turns(t, "op x(){}", "op x(){}")
	turns(t, "op Some_Name16_____(b,a,z){[b]+=a-z;}", "op Some_Name16_____(b,a,z){[b]-=a-z;}")
	turns(t, "op o(a,b,c,d,e,f,g,h){}", "op o(a,b,c,d,e,f,g,h){}")
	turns(t, "op o(o){[o]+=o;}", "op o(o){[o]-=o;}")
}

// Needs, and what is given, are left out.
func TestNeedsAndGive(t *testing.T) {
	turns(t, "op o(i){need i<60;need i>=0;[i]+=1;give i;}", "op o(i){[i]-=1;}")
	turns(t, "op o(i){need i<60;}", "op o(i){}")
	turns(t, "op o(i){give i;}", "op o(i){}")
	turns(t, "op o(i){need [i]==0;need [[i]]<[i+1];let a=i*2;[a]<>[i];[i]+=1;give [[i]]-[59];}", "op o(i){let a=i*2;[i]-=1;[a]<>[i];}")
	turns(t, "op o(i){need [i]>0;give [i];}", "op o(i){}")
}

func TestNoStatements(t *testing.T) {
	for _, text := range []string{"op o(){}", "op o(){give 7;}", "op o(){need true;}"} {
		u := turned(t, parsed(t, text))
		if len(u.Params)+len(u.Needs)+len(u.Body)+len(u.Give) != 0 || u.Name != "o" {
			t.Errorf("%q: %q", text, shown(u))
		}
	}
}

// P10.1: the edges of the limits

func TestMostNames(t *testing.T) {
	text, lets, takes := "", "", ""
	for _, name := range strings.Split("pqrstuvw", "") {
		text += "let " + name + "=a;[" + name + "]+=h;"
		lets += "let " + name + "=a;"
		takes = "[" + name + "]-=h;" + takes
	}
	turns(t, "op o(a,b,c,d,e,f,g,h){"+text+"}", "op o(a,b,c,d,e,f,g,h){"+lets+takes+"}")
	refused(t, "op o(a,b,c,d,e,f,g,h){"+text+"let x=a;}", "op o(a,b,c,d,e,f,g,h,i){}")
}

func TestMostSteps(t *testing.T) {
	adds, takes := strings.Repeat("[0]+=1;", 29), strings.Repeat("[0]-=1;", 29)
	turns(t, "op o(){for a in 0..23{"+adds+"}for b in 0..22{}}", "op o(){back b in 0..22{}back a in 0..23{"+takes+"}}")
	// What is left out counts, too.
	refused(t, "op o(){for a in 0..23{"+adds+"}for b in 0..23{}}", "op o(){need true;for a in 0..23{"+adds+"}for b in 0..22{}}",
		"op o(){for a in 0..23{"+adds+"}for b in 0..22{}give 1;}", "op o(){for a in 0..64{for b in 0..64{}}}", "op o(){for a in 0..65{}}")
}

func TestDeepest(t *testing.T) {
	for _, row := range [][3]string{{"if true{", "if true{", "}else{}"}, {"if true{}else{", "if true{}else{", "}"},
		{"if 1<2{[2]-=2;", "if 1<2{", "[2]+=2;}else{}"}} {
		text := strings.Repeat(row[0], 10) + "[1]+=1;" + strings.Repeat("}", 10)
		body(t, text, strings.Repeat(row[1], 10)+"[1]-=1;"+strings.Repeat(row[2], 10))
	}
	loops, backs := "", ""
	for _, name := range strings.Split("abcdefghlmn", "") {
		loops += "for " + name + " in 0..1{"
		backs += "back " + name + " in 0..1{"
	}
	body(t, loops+"let p=a*n;"+strings.Repeat("}", 11), backs+"let p=a*n;"+strings.Repeat("}", 11))
	body(t, "[-(-(-(-(-(i)))))]+=1;", "[-----i]-=1;")
}

func TestLongestText(t *testing.T) {
	text, want := "", ""
	for len(text) < 460 {
		text += "[0]+=1;"
		want += "[0]-=1;"
	}
	d := parsed(t, "op o(){"+text+"}"+strings.Repeat(" ", 480-8-len(text)))
	if got := shown(turned(t, d)); got != "op o(){"+want+"}" {
		t.Errorf("%q", got)
	}
}

// P10.1: an SBack in what is handed in

func TestBackwardLoops(t *testing.T) {
	for text, want := range map[string]string{
		"op o(i){for a in 0..3{[a]+=1;}}":                                        "op o(i){for a in 0..3{[a]+=1;}}",
		"op o(i){for a in 0..3{[a]+=1;[i]<>[a];for b in 0..2{[b]-=a;}}let c=i;}": "op o(i){let c=i;for a in 0..3{[a]+=1;[i]<>[a];for b in 0..2{[b]-=a;}}}",
		"op o(i){if i<3{for a in 0..64{}}else{for b in 0..0{[0]+=1;}}}":          "op o(i){if i<3{for a in 0..64{}}else{for b in 0..0{[0]+=1;}}}",
	} {
		u := turned(t, parsed(t, text))
		if got := shown(turned(t, u)); got != want {
			t.Errorf("%q, turned twice: %q, want %q", text, got, want)
		}
	}
	// One of each kind within the other.
	d := parsed(t, "op o(){for a in 0..3{for b in 0..2{[a]<>[b];}}}")
	d.Body[0].Kind = api.SBack
	if got := shown(turned(t, d)); got != "op o(){for a in 0..3{back b in 0..2{[a]<>[b];}}}" {
		t.Error(got)
	}
	d.Body[0].Kind, d.Body[0].Body[0].Kind = api.SFor, api.SBack
	if got := shown(turned(t, d)); got != "op o(){back a in 0..3{for b in 0..2{[a]<>[b];}}}" {
		t.Error(got)
	}
	// What can't be turned round can't be with it, either.
	for _, text := range []string{"op o(){for a in 0..3{[a]=1;}}", "op o(){for a in 0..3{[a]+=[0];}}", "op o(){for a in 0..3{}[b]+=1;}",
		"op o(){for a in 0..65{}}"} {
		d := parsed(t, text)
		d.Body[0].Kind = api.SBack
		refusedDef(t, d)
	}
}

// P10.1: places

// places is where the statements and expressions of a list begin, in the order in which they stand there.
func places(list []api.Stmt) []int {
	var all []int
	for _, s := range list {
		all = append(append(all, s.At), exprPlaces(s.Exprs)...)
		all = append(append(all, places(s.Body)...), places(s.Else)...)
	}
	return all
}

func exprPlaces(list []api.Expr) []int {
	var all []int
	for _, e := range list {
		all = append(append(all, e.At), exprPlaces(e.Args)...)
	}
	return all
}

func TestPlaces(t *testing.T) {
	const text = "op o(i) { [i+1] += -2; let a = i; for b in 0..3 { [b] -= 1; if a<b { } else { [7] <> [a]; } } }"
	let, add, loop := []int{23, 31}, []int{10, 12, 11, 13, 19, 20}, []int{34}
	take, choice := []int{50, 51, 57}, []int{60, 64, 63, 65, 78, 79, 86}
	d := parsed(t, text)
	u := turned(t, d)
	for _, row := range []struct {
		list []api.Stmt
		want [][]int
	}{
		{d.Body, [][]int{add, let, loop, take, choice}},
		{u.Body, [][]int{let, loop, choice, take, add}},
		{turned(t, u).Body, [][]int{let, add, loop, take, choice}},
	} {
		if got := places(row.list); !slices.Equal(got, slices.Concat(row.want...)) {
			t.Errorf("%q: %v, want %v", shownStmts(row.list), got, row.want)
		}
	}
	d = parsed(t, "op o(){[1]+=2;}")
	d.Body[0].At, d.Body[0].Exprs[0].At, d.Body[0].Exprs[1].At = -5, 1<<62, 0
	if got := places(turned(t, d).Body); !slices.Equal(got, []int{-5, 1 << 62, 0}) {
		t.Error(got)
	}
}

// P10.1: which definitions can be turned round, and the error

func TestSets(t *testing.T) {
	refused(t, "op o(){[0]=0;}", "op o(i){[i]=i;}", "op o(i){[i]+=1;[i]=1;}", "op o(i){[i]=1;[i]+=1;}", "op o(i){let a=i;[a]=a;}", "op o(i){if false{[0]=1;}}",
		"op o(i){if true{}else{[0]=1;}}", "op o(i){for a in 0..0{[0]=1;}}", "op o(i){for a in 0..3{for b in 0..2{if a<b{}else{if b<a{[a]<>[b];[60]=1;}}}}}")
}

func TestCellsInStatements(t *testing.T) {
	for _, text := range []string{
		"[[0]]+=1;", "[0]+=[0];", "[[0]]-=1;", "[0]-=[0];", "[[0]]<>[1];", "[0]<>[[1]];", "let a=[0];", "let a=[0]<1;", "if [0]<1{}", "if 1==[0]{}else{}",
		"[0]+=1+2*-[i];", "[0]+=[[60]];", "[1-[0]]+=1;", "[0]+=[0]*0;", "let a=!([-1]!=3);", "if i<k&&(k<v||!(0==--[v])){}",
	} {
		for _, around := range []string{"@", "[0]+=1;@[1]+=1;", "if true{@}", "if true{}else{@}", "for z in 0..0{@}", "for z in 0..2{for y in 0..3{if z<y{[0]<>[1];}else{@}}}"} {
			refused(t, "op o(i,k,v){"+strings.Replace(around, "@", text, 1)+"}")
		}
	}
}

// A cell that a need or what is given reads is no statement's.
func TestCellsElsewhere(t *testing.T) {
	turns(t, "op o(i){need [0]<[[i]];}", "op o(i){}")
	turns(t, "op o(i){[i]+=1;give [0]+[[i]];}", "op o(i){[i]-=1;}")
	turns(t, "op o(i){need [0]<1;let a=i;if a<2{[a]<>[3];}give [0];}", "op o(i){let a=i;if a<2{[a]<>[3];}else{}}")
	refused(t, "op o(i){need [0]<1;[i]=1;}", "op o(i){[i]=1;give [0];}", "op o(i){need [0]<1;[i]+=[1];give [0];}")
}

// What Check refuses is ErrCode, where it could be turned round, too; and not the fault itself.
func TestFaults(t *testing.T) {
	refused(t, "op o(a,a){}", "op o(a,b,c,d,e,f,g,h,i){}", "op o(){[x]+=1;}", "op o(){[0]-=x;}", "op o(){[0]<>[x];}", "op o(){let a=a;}", "op o(a){let a=1;}",
		"op o(){if x{}}", "op o(){if 1{}}", "op o(){[true]+=1;}", "op o(){[0]+=1<2;}", "op o(){let a=1+true;}", "op o(){for a in 0..65{}}", "op o(a){for a in 0..2{}}",
		"op o(){if true{let a=1;}[a]+=1;}", "op o(){[a]+=1;let a=1;}", "op o(){for a in 0..2{}[a]+=1;}", "op o(){for a in 0..64{for b in 0..31{}}}")
	// Of what is left out, too.
	refused(t, "op o(){need 1;[0]+=1;}", "op o(){need x<1;[0]+=1;}", "op o(){need true;need 1+true<2;}", "op o(){need a<1;let a=1;}",
		"op o(){[0]+=1;give true;}", "op o(){give x;}", "op o(){let a=1;give !a;}", "op o(){if true{let a=1;}give a;}")
	// And of what can't be turned round.
	refused(t, "op o(){[x]=1;}", "op o(){[0]=[true];}", "op o(){[[x]]+=1;}")
}
