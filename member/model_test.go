package member_test

import (
	"slices"
	"strconv"
	"testing"

	"winnower/api"
	"winnower/member"
)

// model tells what members must as plainly as can be, by the words of the chapter.
type model struct {
	classes []api.Class
}

// number is that of a class's name; -1: there is none.
func (m model) number(name string) int {
	return slices.IndexFunc(m.classes, func(c api.Class) bool { return c.Name == name })
}

// super is the number of a class's Super; -1: it has none.
func (m model) super(class int) int {
	if class < 0 || class >= len(m.classes) || m.classes[class].Super == "" {
		return -1
	}
	return m.number(m.classes[class].Super)
}

// above are all above a class, and it; some may come more than once.
func (m model) above(class int) []int {
	above := []int{class}
	if super := m.super(class); super >= 0 {
		above = append(above, m.above(super)...)
	}
	for _, name := range m.classes[class].Faces {
		above = append(above, m.above(m.number(name))...)
	}
	return above
}

// variables are a class's own fields, or statics, as members.
func (m model) variables(class int, static bool) []api.Member {
	vars := m.classes[class].Fields
	if static {
		vars = m.classes[class].Statics
	}
	var list []api.Member
	for _, v := range vars {
		list = append(list, api.Member{Class: class, Name: v.Name, Type: v.Type, Static: static})
	}
	return list
}

// methods are a class's own ones, as members.
func (m model) methods(class int) []api.Member {
	var list []api.Member
	for _, x := range m.classes[class].Methods {
		y := api.Member{Class: class, Name: x.Name, Type: x.Ret, Static: x.Static, Bare: x.Bare}
		for _, v := range x.Params {
			y.Params = append(y.Params, v.Type)
		}
		list = append(list, y)
	}
	return list
}

// named is the first one of a name.
func named(list []api.Member, name string) (api.Member, bool) {
	for _, x := range list {
		if x.Name == name {
			return x, true
		}
	}
	return api.Member{}, false
}

func (m model) variable(class int, name string, static bool) (api.Member, bool) {
	if class < 0 || class >= len(m.classes) {
		return api.Member{}, false
	}
	if x, ok := named(m.variables(class, static), name); ok {
		return x, true
	}
	return m.variable(m.super(class), name, static)
}

func (m model) method(class int, name string) (api.Member, bool) {
	if class < 0 || class >= len(m.classes) {
		return api.Member{}, false
	}
	if x, ok := named(m.methods(class), name); ok {
		return x, true
	}
	if x, ok := m.method(m.super(class), name); ok || !m.classes[class].Face {
		return x, ok
	}
	for _, face := range m.classes[class].Faces {
		if x, ok := m.method(m.number(face), name); ok {
			return x, true
		}
	}
	return api.Member{}, false
}

func (m model) fields(class int) []api.Member {
	if class < 0 || class >= len(m.classes) {
		return nil
	}
	return append(m.fields(m.super(class)), m.variables(class, false)...)
}

// isType: may a variable have this type?
func (m model) isType(t string) bool {
	for _, c := range m.classes {
		if t == c.Name || t == c.Name+"[]" {
			return true
		}
	}
	return t == "int"
}

// sameKind: have two methods the same Ret and Params' types?
func sameKind(x, y api.Member) bool {
	return x.Type == y.Type && slices.Equal(x.Params, y.Params)
}

// rightVariable: is a class's field, or static, of a place right?
func (m model) rightVariable(class, at int, static bool) bool {
	list := m.variables(class, static)
	x := list[at]
	_, ahead := named(list[:at], x.Name)
	_, above := m.variable(m.super(class), x.Name, static)
	return m.isType(x.Type) && !ahead && !above
}

// rightMethod: is a class's method of a place right?
func (m model) rightMethod(class, at int) bool {
	list := m.methods(class)
	x := list[at]
	for _, t := range x.Params {
		if !m.isType(t) {
			return false
		}
	}
	_, ahead := named(list[:at], x.Name)
	if x.Type != "void" && !m.isType(x.Type) || ahead || m.classes[class].Face && !x.Bare {
		return false
	}
	for _, up := range m.above(class) {
		y, ok := named(m.methods(up), x.Name)
		if up != class && ok && (!sameKind(x, y) || x.Static || y.Static) {
			return false
		}
	}
	return true
}

// rightAll: has a class, if it is no interface, a body for each Bare method above it; has it no Super, if it is one?
func (m model) rightAll(class int) bool {
	if m.classes[class].Face {
		return m.super(class) < 0
	}
	for _, up := range m.above(class) {
		list := m.methods(up)
		for at, y := range list {
			_, ahead := named(list[:at], y.Name)
			x, ok := m.method(class, y.Name)
			if y.Bare && !ahead && (!ok || x.Bare || x.Static || !sameKind(x, y)) {
				return false
			}
		}
	}
	return true
}

// fault is the first place that isn't right; false: all are.
func (m model) fault() (api.Pos, bool) {
	for i, c := range m.classes {
		for at, v := range c.Fields {
			if !m.rightVariable(i, at, false) {
				return v.At, true
			}
		}
		for at, v := range c.Statics {
			if !m.rightVariable(i, at, true) {
				return v.At, true
			}
		}
		for at, x := range c.Methods {
			if !m.rightMethod(i, at) {
				return x.At, true
			}
		}
		if !m.rightAll(i) {
			return c.At, true
		}
	}
	return api.Pos{}, false
}

// dice answers the same numbers at each run.
type dice uint64

func (d *dice) roll(n int) int {
	*d = *d*6364136223846793005 + 1442695040888963407
	return int(uint64(*d)>>33) % n
}

// heads are n classes that are right, each with others above it that stand ahead of it in some order.
func (d *dice) heads(n int) []api.Class {
	classes := make([]api.Class, n)
	order := make([]int, n)
	for i := range classes {
		classes[i] = api.Class{Name: "T" + strconv.Itoa(i), Face: d.roll(3) == 0}
		at := d.roll(i + 1)
		order[i] = order[at]
		order[at] = i
	}
	for at, i := range order {
		c := &classes[i]
		for range d.roll(4) {
			other := classes[order[d.roll(at+1)]]
			switch {
			case other.Name == c.Name || slices.Contains(c.Faces, other.Name):
			case other.Face:
				c.Faces = append(c.Faces, other.Name)
			case !c.Face || d.roll(60) == 0:
				c.Super = other.Name
			}
		}
	}
	return classes
}

// kind is a type of one of n classes, or int; now and then none.
func (d *dice) kind(n, wrong int) string {
	name := "T" + strconv.Itoa(d.roll(n))
	if d.roll(1000) < wrong {
		return []string{"null", "void", "T", name + "[][]", "int[]"}[d.roll(5)]
	}
	return []string{name, name + "[]", "int"}[d.roll(3)]
}

// methods are some that a class may tell: what they answer and take hangs on their names, but now and then not; a class's have bodies, an interface's none, but now and then not.
func (d *dice) methods(face bool, n, wrong int) []api.Method {
	var list []api.Method
	for range d.roll(4) {
		name := d.roll(5)
		m := method([]string{"void", "int", "T0", "T0[]", "void"}[name], "m"+strconv.Itoa(name), []string{"int", "T0"}[:name%3]...)
		slip := func() bool { return d.roll(1000) < wrong }
		if slip() {
			m.Ret = d.kind(n, 500)
		}
		if slip() {
			m.Params = append(m.Params, variable(d.kind(n, 200), "p"))
		}
		m.Bare = face != slip()
		m.Static = !face && name == 4 && d.roll(2) == 0 || slip()
		doubled := slices.ContainsFunc(list, func(x api.Method) bool { return x.Name == m.Name })
		if !doubled || slip() {
			list = append(list, m)
		}
	}
	return list
}

// variables are some fields, or statics; their names are a class's own, but now and then not.
func (d *dice) variables(class, n, wrong int) []api.Var {
	var list []api.Var
	for i := range d.roll(4) {
		name := "f" + strconv.Itoa(i) + "_" + strconv.Itoa(class)
		if d.roll(1000) < 3*wrong {
			name = "f" + strconv.Itoa(d.roll(3)) + "_" + strconv.Itoa(d.roll(n))
		}
		list = append(list, variable(d.kind(n, wrong), name))
	}
	return list
}

// complete gives classes bodies for what they lack, but now and then not.
func (d *dice) complete(classes []api.Class, wrong int) {
	m := model{classes}
	for i := range classes {
		c := &classes[i]
		for _, up := range m.above(i) {
			for _, x := range classes[up].Methods {
				y, ok := m.method(i, x.Name)
				if !c.Face && x.Bare && (!ok || y.Bare) && d.roll(1000) >= wrong {
					x.Bare = false
					c.Methods = append(c.Methods, x)
				}
			}
		}
	}
}

// program is one of n classes, of whose members some in a thousand are wrong.
func (d *dice) program(n, wrong int) api.Program {
	classes := d.heads(n)
	for i := range classes {
		c := &classes[i]
		c.Fields = d.variables(i, n, wrong)
		c.Statics = d.variables(i, n, wrong)
		c.Methods = d.methods(c.Face, n, wrong)
	}
	d.complete(classes, wrong)
	return placed(classes...)
}

// wantFound holds one answer of members against the model's.
func wantFound(t *testing.T, what string, find lookup, class int, name string, want api.Member, ok bool) {
	t.Helper()
	if ok {
		wantMember(t, what, find, class, name, want)
	} else {
		wantNone(t, what, find, class, name)
	}
}

// wantModel holds all that members answer against their model.
func wantModel(t *testing.T, m *member.Members, o model) {
	t.Helper()
	for class := -1; class <= len(o.classes); class++ {
		wantFields(t, m, class, o.fields(class)...)
		for i := range 8 {
			for other := range len(o.classes) {
				name := "f" + strconv.Itoa(i) + "_" + strconv.Itoa(other)
				x, ok := o.variable(class, name, false)
				wantFound(t, "Field", m.Field, class, name, x, ok)
				x, ok = o.variable(class, name, true)
				wantFound(t, "Static", m.Static, class, name, x, ok)
			}
			name := "m" + strconv.Itoa(i)
			x, ok := o.method(class, name)
			wantFound(t, "Method", m.Method, class, name, x, ok)
			if ok && !o.classes[class].Face && !x.Bare && !x.Static {
				wantDispatch(t, m, class, name, x.Class)
			} else {
				wantNoDispatch(t, m, class, name)
			}
		}
	}
}

// wantLaw asks, of each method that a class or an interface has, for one of the same kind in each class below it.
func wantLaw(t *testing.T, m *member.Members, o model) {
	t.Helper()
	for class, c := range o.classes {
		for _, up := range o.above(class) {
			for i := range 8 {
				name := "m" + strconv.Itoa(i)
				x, above := m.Method(up, name)
				y, ok := m.Method(class, name)
				if above && !c.Face && (!ok || y.Bare || !sameKind(x, y)) {
					t.Errorf("P10.3: %+v is above class %d, which has %+v, %v", x, class, y, ok)
				}
			}
		}
	}
}

func TestAgainstModel(t *testing.T) {
	d := dice(1)
	for _, wrong := range []int{0, 2, 10, 40, 200} {
		right, all := 0, 0
		for _, n := range []int{1, 2, 3, 4, 5, 6, 8, 10} {
			for range 250 {
				p := d.program(n, wrong)
				o := model{p.Classes}
				all++
				if at, bad := o.fault(); bad {
					wantFault(t, "a made program", p, at)
					continue
				}
				right++
				m := wantRight(t, "a made program", p)
				wantModel(t, m, o)
				wantLaw(t, m, o)
			}
		}
		if right < all/40 || right > all*19/20 {
			t.Errorf("of %d programs with %d wrong are right: %d", all, wrong, right)
		}
	}
}

// TestEachTwoMethods: a class, its Super and their interface, each with a method of one name, or without: of each kind, Static or not, Bare or not, in each order.
func TestEachTwoMethods(t *testing.T) {
	d := dice(2)
	forms := [][]api.Method{nil, {method("int", "m1")}, {method("void", "m1")}, {method("int", "m1", "int")}, {static(method("int", "m1"))}, {bare(method("int", "m1"))}, {bare(method("void", "m1"))}, {static(bare(method("int", "m1")))}, {method("int", "m1"), method("void", "m1")}, {bare(method("int", "m1")), bare(method("void", "m1"))}}
	for _, a := range forms {
		for _, b := range forms {
			for _, i := range forms {
				classes := []api.Class{with(class("A", "B", "I"), a...), with(class("B", ""), b...), with(face("I"), i...)}
				at := d.roll(3)
				classes[0], classes[at] = classes[at], classes[0]
				p := placed(classes...)
				o := model{p.Classes}
				if at, bad := o.fault(); bad {
					wantFault(t, "three classes", p, at)
					continue
				}
				wantModel(t, wantRight(t, "three classes", p), o)
			}
		}
	}
}
