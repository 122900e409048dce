package op

import (
	"sync"
	"sync/atomic"

	"palimpsest/api"
	"palimpsest/check"
	"palimpsest/code"
	"palimpsest/invert"
	"palimpsest/parse"
	"palimpsest/vm"
	"palimpsest/wire"
)

// operation is an operation that was checked.
type operation struct {
	text   string
	def    api.Def
	info   api.Info
	ahead  made // its code
	turned made // its turned one's code
	runs   atomic.Int64
}

// made is a code that is made when it is first asked for, and just once, however many ask for it at one time.
type made struct {
	once sync.Once
	code api.Code
	err  error
}

func (m *made) get(compile func() (api.Code, error)) (api.Code, error) {
	m.once.Do(func() { m.code, m.err = compile() })
	return m.code, m.err
}

// checked is the operation of a text, or the text's fault.
func checked(text string) (*operation, error) {
	d, err := parse.Parse(text)
	if err != nil {
		return nil, err
	}
	info, err := check.Check(d)
	if err != nil {
		return nil, err
	}
	return &operation{text: text, def: d, info: info}, nil
}

// forth is the code that does what the operation does.
func (x *operation) forth() (api.Code, error) {
	return x.ahead.get(func() (api.Code, error) { return code.Compile(x.def) })
}

// back is the code that undoes it.
func (x *operation) back() (api.Code, error) {
	return x.turned.get(func() (api.Code, error) {
		d, err := invert.Turn(x.def)
		if err != nil {
			return api.Code{}, err
		}
		return code.Compile(d)
	})
}

// run runs one of its codes.
func (x *operation) run(which func(*operation) (api.Code, error), p api.Page, args []int) (api.Page, int, error) {
	c, err := which(x)
	if err != nil {
		return api.Page{}, 0, err
	}
	return vm.Run(c, p, args...)
}

// sector is an operation's sector.
func sector(text string) ([]byte, error) {
	return wire.Box(api.SectorSize, wire.PutRow(nil, []byte(text)))
}

// stored is the operation of a sector.
func stored(sector []byte) (*operation, error) {
	in, err := wire.Unbox(sector)
	if err != nil {
		return nil, err
	}
	text, rest, err := wire.TakeRow(in)
	if err != nil || len(rest) > 0 {
		return nil, api.ErrBox
	}
	x, err := checked(string(text))
	if err != nil {
		return nil, api.ErrBox
	}
	return x, nil
}

// isBlank tells whether all bytes are 0.
func isBlank(b []byte) bool {
	for _, c := range b {
		if c != 0 {
			return false
		}
	}
	return true
}
