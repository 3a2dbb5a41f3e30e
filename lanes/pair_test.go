package lanes_test

import (
	"fmt"
	"math"
	"reflect"
	"slices"
	"strings"
	"testing"
	"unsafe"

	"witan/api"
	"witan/lanes"
	"witan/wire"
)

// pair is a lane and its model, which are told the same. Behind each call Len is asked, what was handed in is as it was and then spoilt, and so is what was answered, once it is told.
type pair struct {
	t   *testing.T
	l   *lanes.Lane
	m   *model
	row []string // what was called, to be told where something is wrong
	// came is how often a packet came that is told so, and went how often it was taken.
	came, went map[string]int
}

func pairOf(t *testing.T, bad ...int) *pair {
	t.Helper()
	handed := withRoom(bad)
	l := lanes.New(handed)
	if l == nil {
		t.Fatal("New answers no lane")
	}
	if !slices.Equal(handed, bad) {
		t.Fatalf("what was handed in was %v and is %v", bad, handed)
	}
	spoilInts(handed)
	p := &pair{t: t, l: l, m: modelOf(bad...), came: map[string]int{}, went: map[string]int{}}
	p.expectLen()
	return p
}

func (p *pair) fail(format string, args ...any) {
	p.t.Helper()
	row := strings.Join(p.row[max(0, len(p.row)-40):], "\n")
	p.t.Fatalf("bad are %v; behind:\n%.6000s\n%s", p.m.bad, row, fmt.Sprintf(format, args...))
}

func (p *pair) expectLen() {
	p.t.Helper()
	for range 2 {
		if got := p.l.Len(); got != len(p.m.row) {
			p.fail("%d are under way, asked %d", got, len(p.m.row))
		}
	}
}

func (p *pair) note(format string, args ...any) {
	p.row = append(p.row, fmt.Sprintf(format, args...))
}

func (p *pair) send(packets ...api.Packet) {
	p.t.Helper()
	p.note("send %d: %.300s", len(packets), tell(packets))
	before := len(p.m.row)
	p.m.send(packets...)
	for _, x := range p.m.row[before:] {
		p.came[tell(x)]++
	}
	var l loan
	handed := slices.Clone(packets)
	l.lend(&handed)
	p.l.Send(handed...)
	p.expectAsWas(handed, packets)
	l.spoil()
	p.expectLen()
}

func (p *pair) inject(x api.Packet) api.Errno {
	p.t.Helper()
	p.note("inject %s", tell(x))
	want := p.m.inject(x)
	if want == api.OK {
		p.came[tell(answered(x))]++
		p.expectBacked(x.Msg)
	}
	var l loan
	handed := x
	l.lend(&handed)
	got := p.l.Inject(handed)
	p.expectAsWas(handed, x)
	l.spoil()
	if got != want {
		p.fail("answered %d, asked %d", got, want)
	}
	p.expectLen()
	return got
}

// expectBacked holds of what is injected that each signature is a bad one's, or was in what was sent.
func (p *pair) expectBacked(m api.Msg) {
	p.t.Helper()
	for _, s := range wire.Terms(m) {
		if !slices.Contains(p.m.bad, s.By) && !p.m.noted[s] {
			p.fail("nobody sent %v", s)
		}
	}
}

func (p *pair) take(n int) (api.Packet, bool) {
	p.t.Helper()
	p.note("take %d", n)
	want, isThere := p.m.take(n)
	got, ok := p.l.Take(n)
	if ok != isThere || tell(got) != tell(want) {
		p.fail("answered %v %s\nasked %v %s", ok, tell(got), isThere, tell(want))
	}
	if ok {
		p.went[tell(got)]++
		if p.went[tell(got)] > p.came[tell(got)] {
			p.fail("taken %d times, and came %d times", p.went[tell(got)], p.came[tell(got)])
		}
	}
	spoil(&got)
	p.expectLen()
	return want, ok
}

func (p *pair) drop(n int) bool {
	p.t.Helper()
	p.note("drop %d", n)
	_, want := p.m.take(n)
	if got := p.l.Drop(n); got != want {
		p.fail("answered %v", got)
	}
	p.expectLen()
	return want
}

func (p *pair) copy(n int) bool {
	p.t.Helper()
	p.note("copy %d", n)
	want := p.m.copy(n)
	if want {
		p.came[tell(p.m.row[len(p.m.row)-1])]++
	}
	if got := p.l.Copy(n); got != want {
		p.fail("answered %v", got)
	}
	p.expectLen()
	return want
}

// drain takes all from the place 0, one by one: they come in the order in which they stand, and then there is none.
func (p *pair) drain() {
	p.t.Helper()
	for len(p.m.row) > 0 {
		p.take(0)
	}
	p.take(0)
}

func (p *pair) expectAsWas(handed, was any) {
	p.t.Helper()
	if tell(handed) != tell(was) {
		p.fail("what was handed in was %s and is %s", tell(was), tell(handed))
	}
}

// tell answers a text of any value of package api's types. Reals stand as their bits, and a list that is nil as one that is empty.
func tell(x any) string {
	var b strings.Builder
	tellValue(&b, reflect.ValueOf(x))
	return b.String()
}

func tellValue(b *strings.Builder, v reflect.Value) {
	switch v.Kind() {
	case reflect.Int:
		fmt.Fprintf(b, "%d ", v.Int())
	case reflect.String:
		fmt.Fprintf(b, "%q ", v.String())
	case reflect.Float64:
		fmt.Fprintf(b, "%016x ", math.Float64bits(v.Float()))
	case reflect.Slice:
		b.WriteString("[")
		for i := range v.Len() {
			tellValue(b, v.Index(i))
		}
		b.WriteString("]")
	case reflect.Struct:
		b.WriteString("{")
		for i := range v.NumField() {
			tellValue(b, v.Field(i))
		}
		b.WriteString("}")
	default:
		panic("no such value in package api")
	}
}

// clone answers a copy of the packet that shares no list with it.
func clone(p api.Packet) api.Packet {
	each(reflect.ValueOf(&p).Elem(), func(v reflect.Value) {
		if v.Kind() == reflect.Slice && !v.IsNil() {
			fresh := reflect.MakeSlice(v.Type(), v.Len(), v.Len())
			reflect.Copy(fresh, v)
			v.Set(fresh)
		}
	})
	return p
}

// each goes through a value and all that stands in it, what is around first.
func each(v reflect.Value, do func(reflect.Value)) {
	do(v)
	switch v.Kind() {
	case reflect.Slice:
		for i := range v.Len() {
			each(v.Index(i), do)
		}
	case reflect.Struct:
		for i := range v.NumField() {
			each(v.Field(i), do)
		}
	}
}

// loan is memory that is a caller's, and what writes over it.
type loan []func()

// lend makes the value that the pointer shows one all of which, lists and texts, is the caller's. Each list has room behind it, so that whoever appends to it writes into the caller's memory.
func (l *loan) lend(pointer any) {
	each(reflect.ValueOf(pointer).Elem(), func(v reflect.Value) {
		switch v.Kind() {
		case reflect.Slice:
			fresh := reflect.MakeSlice(v.Type(), v.Len(), v.Len()+3)
			reflect.Copy(fresh, v)
			v.Set(fresh)
		case reflect.String:
			v.SetString(l.text(v.String()))
		}
	})
	*l = append(*l, func() { spoil(pointer) })
}

// text answers the text in bytes of the caller's.
func (l *loan) text(s string) string {
	bytes := []byte(s)
	if len(bytes) == 0 {
		return s
	}
	*l = append(*l, func() {
		for i := range bytes {
			bytes[i] = '!'
		}
	})
	return unsafe.String(&bytes[0], len(bytes))
}

func (l *loan) spoil() {
	for _, spoil := range *l {
		spoil()
	}
}

// spoil writes over all numbers, texts and reals in the value that the pointer shows, also in the room behind its lists.
func spoil(pointer any) {
	each(reflect.ValueOf(pointer).Elem(), func(v reflect.Value) {
		switch v.Kind() {
		case reflect.Int:
			v.SetInt(-7)
		case reflect.String:
			v.SetString("spoilt")
		case reflect.Float64:
			v.SetFloat(-7)
		case reflect.Slice:
			room := v.Slice(0, v.Cap())
			for i := v.Len(); i < v.Cap(); i++ {
				spoil(room.Index(i).Addr().Interface())
			}
		}
	})
}

func withRoom[T any](list []T) []T {
	return append(make([]T, 0, len(list)+3), list...)
}

func spoilInts(list []int) {
	for i := range list {
		list[i] = -7
	}
}
