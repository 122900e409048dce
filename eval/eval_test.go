package eval_test

import (
	"math"
	"reflect"
	"slices"
	"strings"
	"testing"

	"palimpsest/api"
	"palimpsest/eval"
	"palimpsest/parse"
)

// The calls must have just these signatures: the layers above are built on them.
var (
	_ func(d api.Def, p api.Page, args ...int) (api.Page, int, error) = eval.Run
	_ func(e api.Expr, p api.Page, names map[string]int) (int, error) = eval.Value
)

const (
	least    = math.MinInt
	greatest = math.MaxInt
)

// edges is numbers near 0, near the cells' ends, and at the ends of 64 bits.
func edges() []int {
	return []int{0, 1, -1, 2, -2, 3, -3, 7, -7, 10, 58, 59, 60, 61, -59, -60, 1 << 31, -1 << 31, 1 << 32, 3037000500, -3037000500,
		1 << 62, -1 << 62, greatest, greatest - 1, least, least + 1}
}

// parsed is the definition of a text that must have one.
func parsed(t *testing.T, text string) api.Def {
	t.Helper()
	d, err := parse.Parse(text)
	if err != nil {
		t.Fatalf("%q: %v", text, err)
	}
	return d
}

// paged is a page with values in some cells: a cell, its value, a cell, its value.
func paged(pairs ...int) api.Page {
	p := api.Page{Lsn: 4}
	for i := 0; i < len(pairs); i += 2 {
		p.Cells[pairs[i]] = pairs[i+1]
	}
	return p
}

// counted is a page whose cells are all different, and none 0: cell i has 100 + i.
func counted() api.Page {
	p := api.Page{Lsn: 4}
	for i := range p.Cells {
		p.Cells[i] = 100 + i
	}
	return p
}

// outcome is what Run answers, as a value: an error of number 0 is none.
type outcome struct {
	page api.Page
	n    int
	err  api.Errno
}

// ran is what Run answers, and nothing beside an error.
func ran(t *testing.T, d api.Def, p api.Page, args ...int) outcome {
	t.Helper()
	given := slices.Clone(args)
	q, n, err := eval.Run(d, p, args...)
	if !slices.Equal(given, args) {
		t.Errorf("%q: arguments %v became %v", parse.Print(d), given, args)
	}
	if err == nil {
		return outcome{page: q, n: n}
	}
	code, ok := err.(api.Errno)
	if !ok || code == 0 || q != (api.Page{}) || n != 0 {
		t.Errorf("%q: %v, %d with %v", parse.Print(d), q, n, err)
	}
	return outcome{err: code}
}

// comes tells of a text that doesn't come to this page, or doesn't give this number.
func comes(t *testing.T, text string, from, to api.Page, given int, args ...int) {
	t.Helper()
	if got := ran(t, parsed(t, text), from, args...); got != (outcome{page: to, n: given}) {
		t.Errorf("%q with %v: %v, want %v and %d given", text, args, got, to, given)
	}
}

// gives tells of a text that changes a cell, or doesn't give this number.
func gives(t *testing.T, text string, on api.Page, given int, args ...int) {
	t.Helper()
	comes(t, text, on, on, given, args...)
}

// refused tells of a text that isn't refused with this error.
func refused(t *testing.T, text string, on api.Page, code api.Errno, args ...int) {
	t.Helper()
	if got := ran(t, parsed(t, text), on, args...); got != (outcome{err: code}) {
		t.Errorf("%q with %v: %v, want %v", text, args, got, code)
	}
}

// P9.1: ordinary definitions

func TestExamples(t *testing.T) {
	const text = "op add(i, v) { need i < 60; [i] += v; give v; }"
	comes(t, text, api.Page{}, api.Page{Cells: [60]int{3: 5}}, 5, 3, 5)
	refused(t, text, api.Page{}, api.ErrNeed, 60, 1)
	comes(t, text, api.Page{}, api.Page{}, 1, -1, 1)
}

func TestStatements(t *testing.T) {
	from := paged(1, 10, 2, 20)
	comes(t, "op o(){}", from, from, 0)
	comes(t, "op o(){[1]=7;}", from, paged(1, 7, 2, 20), 0)
	comes(t, "op o(){[1]+=7;}", from, paged(1, 17, 2, 20), 0)
	comes(t, "op o(){[1]-=7;}", from, paged(1, 3, 2, 20), 0)
	comes(t, "op o(){[1]<>[2];}", from, paged(1, 20, 2, 10), 0)
	comes(t, "op o(){let a=7;[1]=a;[a]=a+1;}", from, paged(1, 7, 2, 20, 7, 8), 0)
	comes(t, "op o(){let a=[1];[1]=5;[2]=a;}", from, paged(1, 5, 2, 10), 0)
	comes(t, "op o(){let a=1<2;let b=!a;if a{[1]=1;}if b{[2]=1;}}", from, paged(1, 1, 2, 20), 0)
	comes(t, "op o(){for i in 0..3{[i]=i+1;}}", from, paged(0, 1, 1, 2, 2, 3), 0)
	comes(t, "op o(){for i in 0..3{[3]=[3]*10+i+1;}}", from, paged(1, 10, 2, 20, 3, 123), 0)
	comes(t, "op o(a,b,c,d,e,f,g,h){[0]=a;[1]=b;[2]=c;[3]=d;[4]=e;[5]=f;[6]=g;[7]=h;}", from,
		paged(0, 1, 1, 2, 2, 3, 3, 4, 4, 5, 5, 6, 6, 7, 7, 8), 0, 1, 2, 3, 4, 5, 6, 7, 8)
}

// Statements are run in order, each on the cells that the ones ahead of it left.
func TestOrderOfStatements(t *testing.T) {
	comes(t, "op o(){[0]=2;[0]+=3;[1]=[0];[0]-=1;[0]<>[2];[3]=[2]*10;}", paged(), paged(1, 5, 2, 4, 3, 40), 0)
	comes(t, "op o(){[0]+=1;[[0]]+=1;[[0]]+=1;}", paged(), paged(0, 1, 1, 2), 0)
	comes(t, "op o(){[0]=[0]+[0];[[0]]=[0];}", paged(0, 3), paged(0, 6, 6, 6), 0)
	comes(t, "op o(){[[0]]<>[0];}", paged(0, 3, 3, 8), paged(0, 8, 3, 3), 0)
}

// Each change finds its cell and its value on the cells as they are ahead of it.
func TestChangesOfTheirOwnIndex(t *testing.T) {
	comes(t, "op o(){[[0]]=[0]+1;}", paged(0, 0, 1, 5), paged(0, 1, 1, 5), 0)
	comes(t, "op o(){[[0]]+=[0];}", paged(0, 0), paged(), 0)
	comes(t, "op o(){[[1]]-=[1];}", paged(1, 1), paged(), 0)
	comes(t, "op o(){[[0]]<>[[1]];}", paged(0, 1, 1, 0), paged(0, 0, 1, 1), 0)
}

func TestIfs(t *testing.T) {
	const both = "op o(a){if a<3{[0]=1;[1]+=1;}else{[0]=2;[2]+=1;}[3]=9;}"
	comes(t, both, paged(), paged(0, 1, 1, 1, 3, 9), 0, 2)
	comes(t, both, paged(), paged(0, 2, 2, 1, 3, 9), 0, 3)
	const one = "op o(a){if a==3{[0]=1;}}"
	comes(t, one, paged(), paged(0, 1), 0, 3)
	comes(t, one, paged(), paged(), 0, 4)
	const other = "op o(a){if a==3{}else{[0]=1;}}"
	comes(t, other, paged(), paged(), 0, 3)
	comes(t, other, paged(), paged(0, 1), 0, 4)
	// What an if asks is asked once, ahead of its blocks.
	comes(t, "op o(){if [0]==0{[0]=1;}else{[1]=1;}}", paged(), paged(0, 1), 0)
	comes(t, "op o(){if [0]==0{[0]=1;if [0]==0{[1]=1;}else{[2]=1;}}}", paged(), paged(0, 1, 2, 1), 0)
	comes(t, "op o(){if true{[0]=1;}else{[1]=1;}if false{[2]=1;}else{[3]=1;}}", paged(), paged(0, 1, 3, 1), 0)
}

func TestLoops(t *testing.T) {
	comes(t, "op o(){for i in 0..0{[0]=1;}}", paged(), paged(), 0)
	comes(t, "op o(){for i in 0..1{[i]=1;}}", paged(), paged(0, 1), 0)
	comes(t, "op o(){for i in 0..64{[0]+=i;[1]+=1;}}", paged(), paged(0, 63*32, 1, 64), 0)
	comes(t, "op o(){for i in 0..3{for j in 0..4{[i*4+j]=i*10+j;}}}", paged(),
		paged(1, 1, 2, 2, 3, 3, 4, 10, 5, 11, 6, 12, 7, 13, 8, 20, 9, 21, 10, 22, 11, 23), 0)
	comes(t, "op o(){for i in 0..3{for j in 0..0{[0]=1;}[i+1]=1;}}", paged(), paged(1, 1, 2, 1, 3, 1), 0)
	comes(t, "op o(){for i in 0..2{for j in 0..2{for k in 0..2{[0]=[0]*8+i*4+j*2+k+0;}}}}", paged(), paged(0, 0o01234567), 0)
	// A let within a loop stands for another number in each round.
	comes(t, "op o(){for i in 0..3{let a=[0]+i;[0]=a*2;}}", paged(), paged(0, 8), 0)
	comes(t, "op o(n){for i in 0..8{if i<n{[0]+=1;}else{[1]+=i;}}}", paged(), paged(0, 5, 1, 18), 0, 5)
}

// back is a definition whose loops are run backwards: an SBack stands in no text.
func back(d api.Def) api.Def {
	d.Body = backBlock(d.Body)
	return d
}

func backBlock(list []api.Stmt) []api.Stmt {
	var all []api.Stmt
	for _, s := range list {
		if s.Kind == api.SFor {
			s.Kind = api.SBack
		}
		s.Body, s.Else = backBlock(s.Body), backBlock(s.Else)
		all = append(all, s)
	}
	return all
}

func TestBackwardLoops(t *testing.T) {
	for _, row := range []struct {
		text string
		to   api.Page
	}{
		{"op o(){for i in 0..0{[0]=1;}}", paged()},
		{"op o(){for i in 0..1{[i]=1;}}", paged(0, 1)},
		{"op o(){for i in 0..4{[0]=[0]*10+i;}}", paged(0, 3210)},
		{"op o(){for i in 0..64{[0]+=i;[1]+=1;[2]=i;}}", paged(0, 63*32, 1, 64)},
		{"op o(){for i in 0..2{for j in 0..3{[0]=[0]*8+i*3+j;}}}", paged(0, 0o543210)},
		{"op o(){if true{for i in 0..3{[1]=[1]*10+i+1;}}else{}}", paged(1, 321)},
	} {
		if got := ran(t, back(parsed(t, row.text)), paged()); got != (outcome{page: row.to}) {
			t.Errorf("%q: %v, want %v", row.text, got, row.to)
		}
	}
	// One of each kind, the one within the other.
	d := parsed(t, "op o(){for i in 0..2{for j in 0..3{[0]=[0]*8+i*3+j;}}}")
	d.Body[0].Body = backBlock(d.Body[0].Body)
	if got := ran(t, d, paged()); got != (outcome{page: paged(0, 0o210543)}) {
		t.Error(got)
	}
	d = back(d)
	d.Body[0].Body[0].Kind = api.SFor
	if got := ran(t, d, paged()); got != (outcome{page: paged(0, 0o345012)}) {
		t.Error(got)
	}
}

// The statements of an operation that adds, and turned: the one takes off what the other one puts.
func TestTurnedByHand(t *testing.T) {
	d := parsed(t, "op f(i){let a=i*2;[a]+=1;for k in 0..3{[k]<>[a];}}")
	turned := d
	turned.Body = []api.Stmt{d.Body[0], d.Body[2], d.Body[1]}
	turned.Body[1].Kind, turned.Body[2].Kind = api.SBack, api.SSub
	for i := range 40 {
		got := ran(t, d, counted(), i)
		if i < 30 == (got.page == counted()) && i > 0 {
			t.Error(i, got)
		}
		if again := ran(t, turned, got.page, i); again != (outcome{page: counted()}) {
			t.Error(i, again)
		}
	}
}

// What is given is asked on the cells as they are behind the statements.
func TestGives(t *testing.T) {
	gives(t, "op o(){}", paged(0, 5), 0)
	gives(t, "op o(){give 7;}", paged(0, 5), 7)
	gives(t, "op o(){give -7;}", paged(0, 5), -7)
	gives(t, "op o(){give [0];}", paged(0, 5), 5)
	gives(t, "op o(a){give a;}", paged(0, 5), least, least)
	comes(t, "op o(){[0]=8;}", paged(0, 5), paged(0, 8), 0)
	comes(t, "op o(){[0]=8;give [0];}", paged(0, 5), paged(0, 8), 8)
	comes(t, "op o(){[0]+=8;give [0]*2;}", paged(0, 5), paged(0, 13), 26)
	comes(t, "op o(){let a=[0];[0]=8;give a;}", paged(0, 5), paged(0, 8), 5)
	comes(t, "op o(){for i in 0..3{[i]<>[i+1];}give [3];}", paged(0, 5), paged(3, 5), 5)
}

// Needs are asked on the cells as they are ahead of the statements.
func TestNeeds(t *testing.T) {
	comes(t, "op o(){need true;[0]=1;}", paged(), paged(0, 1), 0)
	refused(t, "op o(){need false;[0]=1;give 3;}", paged(), api.ErrNeed)
	const first = "op o(a){need a<3;need a>0;[0]=a;give a+1;}"
	comes(t, first, paged(), paged(0, 2), 3, 2)
	refused(t, first, paged(), api.ErrNeed, 3)
	refused(t, first, paged(), api.ErrNeed, 0)
	const cell = "op o(a){need [a]==5;[a]=6;give [a];}"
	comes(t, cell, paged(7, 5), paged(7, 6), 6, 7)
	refused(t, cell, paged(7, 6), api.ErrNeed, 7)
	refused(t, cell, paged(7, 5), api.ErrNeed, 8)
	refused(t, cell, paged(7, 5), api.ErrNeed, 60)
	comes(t, "op o(){need [60]==0&&[-1]==0;[0]=1;}", paged(0, 5), paged(0, 1), 0)
	comes(t, "op o(){need [0]==0;[0]=1;}", paged(), paged(0, 1), 0)
	refused(t, "op o(){need [0]==1;[0]=1;}", paged(), api.ErrNeed)
	for failing := range 4 {
		needs := slices.Repeat([]string{"need true;"}, 4)
		needs[failing] = "need 1>2;"
		refused(t, "op o(){"+strings.Join(needs, "")+"[0]=1;}", paged(), api.ErrNeed)
	}
}

// P9.1: expressions

func TestExpressions(t *testing.T) {
	p := paged(0, 3, 3, 11, 11, 59, 59, -4)
	for text, want := range map[string]int{
		"0": 0, "9223372036854775807": greatest, "-9223372036854775807": -greatest, "-9223372036854775807-1": least, "--5": 5, "---5": -5,
		"1+2": 3, "1-2": -1, "3*-4": -12, "7/2": 3, "7%2": 1, "1-2-3": -4, "2*3+4*5": 26, "2*(3+4)*5": 70, "100/7/2": 7, "100%7%2": 0, "7-7/2*2": 1,
		"[0]": 3, "[[0]]": 11, "[[[0]]]": 59, "[[[[0]]]]": -4, "[[[[[0]]]]]": 0, "-[0]": -3, "[-[59]-1]": 11, "[0]*[3]": 33, "[1]": 0, "[1+2]": 11,
	} {
		gives(t, "op o(){give "+text+";}", p, want)
	}
	truths := map[string]bool{
		"true": true, "false": false, "!true": false, "!false": true, "!!true": true, "1<2": true, "2<2": false, "3<2": false, "1<=2": true, "2<=2": true,
		"3<=2": false, "1>2": false, "2>2": false, "3>2": true, "1>=2": false, "2>=2": true, "3>=2": true, "1==2": false, "2==2": true, "1!=2": true, "2!=2": false,
		"true==true": true, "true==false": false, "false==false": true, "true!=true": false, "true!=false": true, "false!=true": true, "false!=false": false,
		"true&&true": true, "true&&false": false, "false&&true": false, "false&&false": false,
		"true||true": true, "true||false": true, "false||true": true, "false||false": false,
		"true||true&&false": true, "(true||true)&&false": false, "false&&true||true": true, "false&&(true||true)": false, "!false&&true": true, "!(false&&true)": true,
		"(1<2)==true": true, "(1<2)==(3<4)": true, "(1<2)!=(4<3)": true, "[0]==3&&[3]==11": true, "[0]==3&&[3]==3": false, "-1<0": true, "0<-1": false,
	}
	for text, want := range truths {
		to := p
		to.Cells[58] = 2
		if want {
			to.Cells[58] = 1
			gives(t, "op o(){need "+text+";}", p, 0)
		} else {
			refused(t, "op o(){need "+text+";}", p, api.ErrNeed)
		}
		comes(t, "op o(){let a="+text+";if a{[58]=1;}else{[58]=2;}}", p, to, 0)
	}
}

func TestWrapAround(t *testing.T) {
	for _, row := range []struct {
		text       string
		a, b, want int
	}{
		{"a+b", greatest, 1, least}, {"a+b", least, -1, greatest}, {"a+b", greatest, greatest, -2}, {"a+b", least, least, 0}, {"a+b", greatest, least, -1},
		{"a-b", least, 1, greatest}, {"a-b", greatest, -1, least}, {"a-b", 0, least, least}, {"a-b", -1, least, greatest}, {"a-b", least, greatest, 1},
		{"a*b", greatest, 2, -2}, {"a*b", least, -1, least}, {"a*b", least, 2, 0}, {"a*b", 1 << 32, 1 << 32, 0}, {"a*b", 1 << 32, 1 << 31, least},
		{"a*b", greatest, greatest, 1}, {"a*b", 3037000500, 3037000500, -9223372036709301616}, {"a*b", least, least, 0},
		{"-a", least, 0, least}, {"-a", greatest, 0, -greatest}, {"-a", 0, 0, 0}, {"--a", least, 0, least}, {"-a", least + 1, 0, greatest},
		{"a/b", least, -1, least}, {"a%b", least, -1, 0}, {"a/b", least, 1, least}, {"a%b", least, 1, 0}, {"a/b", greatest, -1, -greatest},
		{"a/b", 7, 0, 0}, {"a%b", 7, 0, 0}, {"a/b", -7, 0, 0}, {"a%b", -7, 0, 0}, {"a/b", 0, 0, 0}, {"a%b", 0, 0, 0}, {"a/b", least, 0, 0}, {"a%b", least, 0, 0},
		{"a/b", 7, 2, 3}, {"a%b", 7, 2, 1}, {"a/b", -7, 2, -3}, {"a%b", -7, 2, -1}, {"a/b", 7, -2, -3}, {"a%b", 7, -2, 1}, {"a/b", -7, -2, 3}, {"a%b", -7, -2, -1},
		{"a/b", 1, 2, 0}, {"a%b", 1, 2, 1}, {"a/b", -1, 2, 0}, {"a%b", -1, 2, -1}, {"a/b", greatest, least, 0}, {"a%b", greatest, least, greatest},
		{"a/b", least, greatest, -1}, {"a%b", least, greatest, -1}, {"a/b", least, least, 1}, {"a%b", least, 2, 0}, {"a/b", least, 2, -1 << 62},
	} {
		gives(t, "op o(a,b){give "+row.text+";}", paged(), row.want, row.a, row.b)
		comes(t, "op o(a,b){[7]="+row.text+";}", paged(), paged(7, row.want), 0, row.a, row.b)
		if value, err := eval.Value(parsed(t, "op o(){give "+row.text+";}").Give[0], paged(), map[string]int{"a": row.a, "b": row.b}); value != row.want || err != nil {
			t.Errorf("%s of %d and %d: %d, %v, want %d", row.text, row.a, row.b, value, err, row.want)
		}
	}
	comes(t, "op o(v){[0]+=v;}", paged(0, greatest), paged(0, least), 0, 1)
	comes(t, "op o(v){[0]+=v;}", paged(0, least), paged(0, greatest), 0, -1)
	comes(t, "op o(v){[0]-=v;}", paged(0, least), paged(0, greatest), 0, 1)
	comes(t, "op o(v){[0]-=v;}", paged(0, 0), paged(0, least), 0, least)
	comes(t, "op o(v){[0]-=v;}", paged(0, -1), paged(0, greatest), 0, least)
}

// P9.1: cells that there are and that there aren't

// outside is numbers that no cell has. Some of them are cells' numbers in 32, 16 or 8 bits.
func outside() []int {
	return []int{-1, -2, -59, -60, 60, 61, 64, 127, 128, 255, 256, 1 << 16, 1<<16 + 3, 1 << 32, 1<<32 + 3, -1 << 32, 1 << 62, greatest, least, least + 3}
}

func TestCellsThatThereAre(t *testing.T) {
	for cell := range 60 {
		was := 100 + cell
		turned := func(cell, value int) api.Page {
			p := counted()
			p.Cells[cell] = value
			return p
		}
		gives(t, "op o(i){give [i];}", counted(), was, cell)
		comes(t, "op o(i){[i]=-1;}", counted(), turned(cell, -1), 0, cell)
		comes(t, "op o(i){[i]+=1000;}", counted(), turned(cell, was+1000), 0, cell)
		comes(t, "op o(i){[i]-=1000;}", counted(), turned(cell, was-1000), 0, cell)
		for other := range 60 {
			swapped := turned(cell, 100+other)
			swapped.Cells[other] = was
			comes(t, "op o(i,j){[i]<>[j];}", counted(), swapped, 0, cell, other)
		}
	}
	comes(t, "op o(){[0]=1;[59]=2;}", paged(), paged(0, 1, 59, 2), 0)
	comes(t, "op o(){[0]<>[59];give [0];}", paged(0, 1, 59, 2), paged(0, 2, 59, 1), 2)
	comes(t, "op o(){[0]<>[0];[59]<>[59];}", counted(), counted(), 0)
}

func TestCellsThatThereArent(t *testing.T) {
	for _, cell := range outside() {
		gives(t, "op o(i){give [i];}", counted(), 0, cell)
		gives(t, "op o(i){give [[i]];}", counted(), 100, cell)
		gives(t, "op o(i){[i]=7;}", counted(), 0, cell)
		gives(t, "op o(i){[i]=7;give [i];}", counted(), 0, cell)
		gives(t, "op o(i){[i]+=7;}", counted(), 0, cell)
		gives(t, "op o(i){[i]-=7;give [i]+1;}", counted(), 1, cell)
		for _, other := range []int{0, 1, 30, 59, cell, -1, 60, least, greatest} {
			gives(t, "op o(i,j){[i]<>[j];}", counted(), 0, cell, other)
			gives(t, "op o(i,j){[i]<>[j];}", counted(), 0, other, cell)
		}
		// What is asked beside a cell that there isn't is asked all the same, and what stands behind is run.
		p := counted()
		p.Cells[5] = 1
		comes(t, "op o(i){[i]=[i]/0;[5]=1;}", counted(), p, 0, cell)
	}
	gives(t, "op o(){[60]=1;[-1]+=1;[0]<>[99];give [77]+[0-1];}", counted(), 0)
}

// P9.1: which error is answered

func TestErrCode(t *testing.T) {
	for _, text := range []string{
		"op o(){[x]=1;}", "op o(){if 1{}}", "op o(){for i in 0..65{}}", "op o(a,a){}", "op o(a,b,c,d,e,f,g,h,i){}", "op o(a){let a=1;}",
		"op o(){if true{let a=1;}give a;}", "op o(){need -true<1;}", "op o(){for i in 0..60{for j in 0..60{}}}", "op o(){give 1<2;}", "op o(){need 1;}",
		"op o(){need false;need 1;}", "op o(){need false;give x;}", "op o(){need false;[0]=1;[x]=1;}", "op o(){if false{[x]=1;}}",
		"op o(){for i in 0..0{[x]=1;}}", "op o(){let a=true==1;}", "op o(){give true;}",
	} {
		for _, args := range [][]int{nil, {1}, {1, 2}, make([]int, 9), make([]int, 1000)} {
			refused(t, text, counted(), api.ErrCode, args...)
		}
	}
}

func TestErrForm(t *testing.T) {
	names := strings.Split("abcdefgh", "")
	for params := range 9 {
		for _, within := range []string{"", "need false;", "[0]=1;give 7;"} {
			text := "op o(" + strings.Join(names[:params], ",") + "){" + within + "}"
			for count := range 12 {
				switch {
				case count != params:
					refused(t, text, counted(), api.ErrForm, make([]int, count)...)
				case within == "need false;":
					refused(t, text, counted(), api.ErrNeed, make([]int, count)...)
				default:
					if got := ran(t, parsed(t, text), counted(), make([]int, count)...); got.err != 0 {
						t.Error(text, got)
					}
				}
			}
		}
	}
}

// P9.2 and rule 5: what is handed in stays as it was, and nothing of it is kept; the page's Lsn stays

func TestKeepsLsn(t *testing.T) {
	d := parsed(t, "op o(i,v){need v<100;[i]=v;[i+1]+=v;[0]<>[1];for k in 0..3{[k]-=1;}give [i];}")
	for _, lsn := range edges() {
		from := counted()
		from.Lsn = lsn
		if got := ran(t, d, from, 5, 7); got.err != 0 || got.page.Lsn != lsn || got.page.Cells == from.Cells {
			t.Error(lsn, got)
		}
		if got := ran(t, parsed(t, "op o(){}"), from); got != (outcome{page: from}) {
			t.Error(lsn, got)
		}
	}
}

func TestKeepsWhatIsHandedIn(t *testing.T) {
	const text = "op o(a,b){need a<b;let c=a+1;if c<b{[a]+=b;}else{for i in 0..2{[i]=c;}}[a]<>[b];give a;}"
	d, same := parsed(t, text), parsed(t, text)
	d.Params = append(make([]string, 0, 9), "a", "b")
	args := append(make([]int, 0, 9), 3, 9)
	p := counted()
	first := ran(t, d, p, args...)
	if p != counted() || !reflect.DeepEqual(d, same) || !slices.Equal(args[:9], []int{3, 9, 0, 0, 0, 0, 0, 0, 0}) {
		t.Error(p, d, args[:9])
	}
	if !slices.Equal(d.Params[:9], []string{"a", "b", "", "", "", "", "", "", ""}) {
		t.Error(d.Params[:9])
	}
	if again := ran(t, d, p, args...); again != first {
		t.Error(first, again)
	}
	args[0] = 4
	if other := ran(t, d, p, args...); other == first {
		t.Error(other)
	}
	d.Body = nil
	if other := ran(t, d, p, 3, 9); other != (outcome{page: p, n: 3}) {
		t.Error(other)
	}
}

// Rule 4: nil and empty lists mean the same.
func TestEmptyLists(t *testing.T) {
	d := parsed(t, "op o(){need true;if true{}for i in 0..2{}}")
	d.Params, d.Give = []string{}, []api.Expr{}
	d.Needs[0].Args = []api.Expr{}
	for i := range d.Body {
		d.Body[i].Body, d.Body[i].Else = []api.Stmt{}, make([]api.Stmt, 0, 4)
	}
	if got := ran(t, d, counted(), []int{}...); got != (outcome{page: counted()}) {
		t.Error(got)
	}
	if got := ran(t, api.Def{}, counted()); got != (outcome{page: counted()}) {
		t.Error(got)
	}
}
