package emit

import (
	"strconv"

	"halyard/api"
	"halyard/types"
)

// typ is a type of MG. Of each there is one alone, so that two are the same if their addresses are.
type typ struct {
	number int
	kind   int // of api.Type
	params int // of a KFunc: how many of its kids are parameters
	kids   []*typ
	class  *class    // of a KName
	shape  int       // the machine's kind, or unshaped till it is asked for
	calls  *dispatch // of a KFunc: what its values may call
}

const unshaped = -1

func (t *typ) isStruct() bool { return t.class != nil && !t.class.isInterface }

func (t *typ) results() []*typ { return t.kids[t.params:] }

// owner: the class that has the members of a type's values, those of a pointer to a struct too; or nil.
func (t *typ) owner() *class {
	if t.kind == api.KPtr && t.kids[0].isStruct() {
		return t.kids[0].class
	}
	return t.class
}

// class is a struct or an interface.
type class struct {
	t           *typ
	isInterface bool
	number      int              // of a struct: the machine's type
	fields      []member         // of a struct
	methods     map[string]*unit // of a struct
	asked       []member         // of an interface: its methods
	calls       []*dispatch      // of each of these: what it may call
}

type member struct {
	name string
	t    *typ
}

// place of a name in a list; -1, if it is not there.
func place(list []member, name string) int {
	for i, m := range list {
		if m.name == name {
			return i
		}
	}
	return -1
}

// satisfies: has a struct all that an interface asks for?
func (c *class) satisfies(of *class) bool {
	for _, m := range of.asked {
		if u := c.methods[m.name]; u == nil || u.t != m.t {
			return false
		}
	}
	return true
}

// typing has all types: named ones by their names, the others by what they are made of.
type typing struct {
	named map[string]*class
	made  map[string]*typ
}

// newTyping: all names ahead of what they stand for, which names them.
func newTyping(table []api.Decl) (*typing, []*class) {
	ts := &typing{named: map[string]*class{}, made: map[string]*typ{}}
	list := make([]*class, len(table))
	structs := 0
	for i, d := range table {
		c := &class{isInterface: d.Iface, methods: map[string]*unit{}}
		c.t = &typ{number: i, kind: api.KName, class: c, shape: unshaped}
		if !d.Iface {
			c.number = structs
			structs++
		}
		list[i], ts.named[d.Name] = c, c
	}
	for i, d := range table {
		list[i].fields = ts.members(d.Fields)
		if d.Iface {
			list[i].asked = ts.members(d.Methods)
			list[i].calls = make([]*dispatch, len(d.Methods))
		}
	}
	return ts, list
}

func (ts *typing) members(list []api.Field) []member {
	out := make([]member, len(list))
	for i, f := range list {
		out[i] = member{f.Name, ts.of(f.Type)}
	}
	return out
}

// of: the type of a value's, which is known.
func (ts *typing) of(t api.Type) *typ {
	if t.Kind == api.KName {
		return ts.named[t.Name].t
	}
	kids := make([]*typ, len(t.Kids))
	for i, k := range t.Kids {
		kids[i] = ts.of(k)
	}
	return ts.compound(t.Kind, t.Num, kids)
}

// written: the type of a node.
func (ts *typing) written(n api.Node) *typ {
	t, _ := types.Of(n)
	return ts.of(t)
}

func (ts *typing) plain(kind int) *typ { return ts.compound(kind, 0, nil) }

// over: of pointers to a type, or of slices of it.
func (ts *typing) over(kind int, element *typ) *typ {
	return ts.compound(kind, 0, []*typ{element})
}

func (ts *typing) compound(kind, params int, kids []*typ) *typ {
	key := []byte(strconv.Itoa(kind) + " " + strconv.Itoa(params))
	for _, k := range kids {
		key = strconv.AppendInt(append(key, ' '), int64(k.number), 10)
	}
	t := ts.made[string(key)]
	if t == nil {
		t = &typ{number: len(ts.named) + len(ts.made), kind: kind, params: params, kids: kids, shape: unshaped}
		ts.made[string(key)] = t
	}
	return t
}
