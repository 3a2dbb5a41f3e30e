package world_test

import (
	"fmt"
	"math"
	"reflect"
	"slices"
	"strings"
	"testing"
	"unsafe"

	"witan/api"
	"witan/world"
)

// pair is a world and its model, which are told the same. Behind each step all that can be asked is asked; what was handed in is as it was, and then spoilt.
type pair struct {
	t    *testing.T
	w    *world.World
	m    *model
	from string   // how it was made
	row  []string // what was done, to be told where something is wrong
	gaps int      // how many steps go by without all nodes being asked; in long worlds
	gone int      // how many of these went by
}

// pairOf answers a world of these first members, n replicas and k clients.
func pairOf(t *testing.T, first []int, n, k int, bad ...int) *pair {
	t.Helper()
	c, handedBad := conf(0, withRoom(first)...), withRoom(bad)
	c.Members = withRoom(c.Members)
	w, e := world.New(c, n, k, handedBad)
	if e != api.OK || w == nil {
		t.Fatal(first, n, k, bad, e)
	}
	if !slices.Equal(c.Members, first) || !slices.Equal(handedBad, bad) {
		t.Fatal("what was handed in was changed", c.Members, handedBad)
	}
	spoil(&c.Members)
	spoil(&handedBad)
	p := &pair{t: t, w: w, m: modelOf(first, n, k, bad), from: fmt.Sprint(first, n, k, bad)}
	p.expectAll()
	return p
}

// four answers a world of four members and two clients.
func four(t *testing.T, bad ...int) *pair {
	t.Helper()
	return pairOf(t, firstOf(4), 4, 2, bad...)
}

func (p *pair) fail(format string, args ...any) {
	p.t.Helper()
	row := strings.Join(p.row[max(0, len(p.row)-40):], "\n")
	p.t.Fatalf("a world %s; behind:\n%.6000s\n%s", p.from, row, fmt.Sprintf(format, args...))
}

// note keeps what is done, as far as it is told where something is wrong.
func (p *pair) note(x api.Do) {
	if len(p.row) == 80 {
		p.row = slices.Delete(p.row, 0, 40)
	}
	p.row = append(p.row, fmt.Sprintf("%d %d %d %.200s %.300s", x.Kind, x.N, x.From, tell(x.Op), tell(x.Msg)))
}

// do makes a step, and answers its error.
func (p *pair) do(x api.Do) api.Errno {
	p.t.Helper()
	p.note(x)
	want := p.m.do(clone(x))
	var l loan
	handed := x
	l.lend(&handed)
	got := p.w.Do(handed)
	if tell(handed) != tell(x) {
		p.fail("what was handed in was changed")
	}
	l.spoil()
	if got != want {
		p.fail("answered %d, asked %d", got, want)
	}
	p.expectNumbers()
	if p.gone++; p.gone > p.gaps {
		p.gone = 0
		p.expectAll()
	}
	return got
}

// must makes steps none of which is refused.
func (p *pair) must(steps ...api.Do) {
	p.t.Helper()
	for _, x := range steps {
		if e := p.do(x); e != api.OK {
			p.fail("answered %d", e)
		}
	}
}

// refused makes a step that is refused with this error, and is as if it weren't.
func (p *pair) refused(x api.Do, want api.Errno) {
	p.t.Helper()
	before := tellWorld(p.w)
	if got := p.do(x); got != want {
		p.fail("answered %d, asked %d", got, want)
	}
	if tellWorld(p.w) != before {
		p.fail("a refused step changed something")
	}
}

func (p *pair) expectNumbers() {
	p.t.Helper()
	if now, n := p.w.Now(), p.w.Len(); now != p.m.now || n != len(p.m.row) {
		p.fail("it is %d and %d are under way, asked %d and %d", now, n, p.m.now, len(p.m.row))
	}
}

// expectAll holds all that can be asked against the model.
func (p *pair) expectAll() {
	p.t.Helper()
	p.expectNumbers()
	var there []int
	for id, r := range p.m.replicas {
		if r == nil {
			continue
		}
		there = append(there, id)
		if got := p.w.Replica(id); got == nil || tellReplica(got) != tellReplica(r) {
			p.fail("the replica %d isn't as it should be", id)
		}
	}
	expectList(p, p.w.Replicas, there)
	there = nil
	for id, c := range p.m.clients {
		if c == nil {
			continue
		}
		there = append(there, id)
		if got := p.w.Client(id); got == nil || tellClient(got) != tellClient(c) {
			p.fail("the client %d isn't as it should be", id)
		}
	}
	expectList(p, p.w.Clients, there)
}

// expectList holds that the call answers the list, again and again, in new memory each time.
func expectList(p *pair, call func() []int, want []int) {
	p.t.Helper()
	for range 2 {
		got := call()
		if !slices.Equal(got, want) {
			p.fail("answered %v, asked %v", got, want)
		}
		spoil(&got)
	}
}

// drain delivers all that is under way, one by one, and holds that what comes is what should: packets can't be seen but by what their receivers do.
func (p *pair) drain() {
	p.t.Helper()
	for range len(p.m.row) {
		p.must(deliver(0))
	}
	p.gaps = 0
	p.expectAll()
}

// tellWorld answers a text of all that can be asked.
func tellWorld(w *world.World) string {
	var b strings.Builder
	fmt.Fprintln(&b, w.Now(), w.Len(), w.Replicas(), w.Clients())
	for _, id := range w.Replicas() {
		b.WriteString(tellReplica(w.Replica(id)))
	}
	for _, id := range w.Clients() {
		b.WriteString(tellClient(w.Client(id)))
	}
	return b.String()
}

// tell answers a text of any value of package api's types. Reals stand as their bits, and a list that is nil as one that is empty.
func tell(x any) string {
	var b strings.Builder
	tellValue(&b, reflect.ValueOf(x))
	return b.String()
}

func tellValue(b *strings.Builder, v reflect.Value) {
	switch v.Kind() {
	case reflect.Int:
		fmt.Fprintf(b, "%d ", v.Int())
	case reflect.String:
		fmt.Fprintf(b, "%q ", v.String())
	case reflect.Float64:
		fmt.Fprintf(b, "%016x ", math.Float64bits(v.Float()))
	case reflect.Slice:
		b.WriteString("[")
		for i := range v.Len() {
			tellValue(b, v.Index(i))
		}
		b.WriteString("]")
	case reflect.Struct:
		b.WriteString("{")
		for i := range v.NumField() {
			tellValue(b, v.Field(i))
		}
		b.WriteString("}")
	default:
		panic("no such value in package api")
	}
}

// clone answers a copy of the value that shares no list with it.
func clone[T any](x T) T {
	each(reflect.ValueOf(&x).Elem(), func(v reflect.Value) {
		if v.Kind() == reflect.Slice && !v.IsNil() {
			fresh := reflect.MakeSlice(v.Type(), v.Len(), v.Len())
			reflect.Copy(fresh, v)
			v.Set(fresh)
		}
	})
	return x
}

// each goes through a value and all that stands in it, what is around first.
func each(v reflect.Value, do func(reflect.Value)) {
	do(v)
	switch v.Kind() {
	case reflect.Slice:
		for i := range v.Len() {
			each(v.Index(i), do)
		}
	case reflect.Struct:
		for i := range v.NumField() {
			each(v.Field(i), do)
		}
	}
}

// loan is memory that is a caller's, and what writes over it.
type loan []func()

// lend makes the value that the pointer shows one all of which, lists and texts, is the caller's. Each list has room behind it, so that whoever appends to it writes into the caller's memory.
func (l *loan) lend(pointer any) {
	each(reflect.ValueOf(pointer).Elem(), func(v reflect.Value) {
		switch v.Kind() {
		case reflect.Slice:
			fresh := reflect.MakeSlice(v.Type(), v.Len(), v.Len()+3)
			reflect.Copy(fresh, v)
			v.Set(fresh)
		case reflect.String:
			v.SetString(l.text(v.String()))
		}
	})
	*l = append(*l, func() { spoil(pointer) })
}

// text answers the text in bytes of the caller's.
func (l *loan) text(s string) string {
	bytes := []byte(s)
	if len(bytes) == 0 {
		return s
	}
	*l = append(*l, func() {
		for i := range bytes {
			bytes[i] = '!'
		}
	})
	return unsafe.String(&bytes[0], len(bytes))
}

func (l *loan) spoil() {
	for _, spoil := range *l {
		spoil()
	}
}

// spoil writes over all numbers, texts and reals in the value that the pointer shows, also in the room behind its lists.
func spoil(pointer any) {
	each(reflect.ValueOf(pointer).Elem(), func(v reflect.Value) {
		switch v.Kind() {
		case reflect.Int:
			v.SetInt(-7)
		case reflect.String:
			v.SetString("spoilt")
		case reflect.Float64:
			v.SetFloat(-7)
		case reflect.Slice:
			room := v.Slice(0, v.Cap())
			for i := v.Len(); i < v.Cap(); i++ {
				spoil(room.Index(i).Addr().Interface())
			}
		}
	})
}

func withRoom[T any](list []T) []T {
	return append(make([]T, 0, len(list)+3), list...)
}
