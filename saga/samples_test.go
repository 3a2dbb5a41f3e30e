package saga_test

import (
	"fmt"
	"math"
	"math/rand"
	"reflect"
	"slices"
	"strings"
	"testing"
	"unsafe"

	"witan/api"
)

// The document's numbers, written out.
const (
	interval  = 4
	lastEpoch = 60
	maxSlot   = 244
	ids       = 16
	clients   = 8
	node      = 100
	maxStamp  = 1048576
	maxKey    = 16
	maxKeys   = 16
	leaves    = 64
	lastView  = 15
	maxLane   = 4096
)

// The samples' numbers are those of package api: what is written out above stands for the document's.
func TestNumbers(t *testing.T) {
	got := []int{api.Interval, api.MaxEpoch, api.Interval * (api.MaxEpoch + 1), api.Ids, api.Clients, api.Node, api.MaxStamp, api.MaxKey, api.MaxKeys, api.Leaves, api.MaxView, api.MaxLane}
	want := []int{interval, lastEpoch, maxSlot, ids, clients, node, maxStamp, maxKey, maxKeys, leaves, lastView, maxLane}
	if !slices.Equal(got, want) {
		t.Error(got, want)
	}
}

func faultsOf(n int) int { return []int{4: 1, 5: 1, 6: 1, 7: 2, 8: 2, 9: 2, 10: 3}[n] }

func conf(epoch int, members ...int) api.Conf {
	return api.Conf{Epoch: epoch, Members: slices.Clone(members)}
}

// firstOf answers the numbers 0 to n - 1.
func firstOf(n int) []int {
	var list []int
	for id := range n {
		list = append(list, id)
	}
	return list
}

func nanOf(bits uint64) float64 { return math.Float64frombits(bits) }

func minusNought() float64 { return math.Copysign(0, -1) }

// oddNumbers answers numbers about all edges.
func oddNumbers() []int {
	list := []int{math.MinInt, math.MinInt + 1, math.MinInt / 4, math.MaxInt, math.MaxInt - 1, math.MaxInt / 4, 1<<62 + 4, -1 << 62, 1 << 32, -1 << 32, 1<<32 + 4}
	for n := -9; n <= 255; n++ {
		list = append(list, n)
	}
	return list
}

// The operations.

func put(key string, x float64) api.Op { return api.Op{Kind: api.OpPut, Key: key, Real: x} }

func add(key string, x float64) api.Op { return api.Op{Kind: api.OpAdd, Key: key, Real: x} }

func get(key string) api.Op { return api.Op{Kind: api.OpGet, Key: key} }

func join(id int) api.Op { return api.Op{Kind: api.OpJoin, ID: id} }

func leave(id int) api.Op { return api.Op{Kind: api.OpLeave, ID: id} }

func request(client, stamp int, o api.Op) api.Request {
	return api.Request{Client: client, Stamp: stamp, Op: o}
}

// null is the request that asks for nothing.
func null() api.Request { return api.Request{} }

// rising answers the operations as requests of the client, with the stamps 1, 2 and so on.
func rising(client int, list ...api.Op) []api.Request {
	var log []api.Request
	for i, o := range list {
		log = append(log, request(client, i+1, o))
	}
	return log
}

// history answers the requests as the entries of slots from this one on.
func history(slot int, log ...api.Request) []api.Entry {
	var list []api.Entry
	for i, q := range log {
		list = append(list, api.Entry{Slot: slot + i, Req: q})
	}
	return list
}

func nulls(n int) []api.Request { return make([]api.Request, n) }

// wrongRequests answers requests that are neither right nor null, each for one reason.
func wrongRequests() []api.Request {
	right := request(1, 1, put("k", 1))
	with := func(change func(q *api.Request)) api.Request {
		q := right
		change(&q)
		return q
	}
	long := strings.Repeat("x", maxKey+1)
	return []api.Request{
		with(func(q *api.Request) { q.Client = 0 }),
		with(func(q *api.Request) { q.Client = 9 }),
		with(func(q *api.Request) { q.Client = -1 }),
		with(func(q *api.Request) { q.Client = 257 }),
		with(func(q *api.Request) { q.Stamp = 0 }),
		with(func(q *api.Request) { q.Stamp = -1 }),
		with(func(q *api.Request) { q.Stamp = maxStamp + 1 }),
		with(func(q *api.Request) { q.Stamp = math.MaxInt }),
		with(func(q *api.Request) { q.Op.Kind = 0 }),
		with(func(q *api.Request) { q.Op.Kind = 8 }),
		with(func(q *api.Request) { q.Op.Kind = -1 }),
		with(func(q *api.Request) { q.Op.Key = "" }),
		with(func(q *api.Request) { q.Op.Key = long }),
		with(func(q *api.Request) { q.Op.ID = 1 }),
		request(1, 1, api.Op{Kind: api.OpGet, Key: "k", Real: 1}),
		request(1, 1, api.Op{Kind: api.OpGet, Key: "k", Real: minusNought()}),
		request(1, 1, api.Op{Kind: api.OpCut, Key: "k", Real: nanOf(1 << 63)}),
		request(1, 1, join(16)),
		request(1, 1, join(-1)),
		request(1, 1, leave(16)),
		request(1, 1, api.Op{Kind: api.OpJoin, Key: "k", ID: 4}),
		request(1, 1, api.Op{Kind: api.OpLeave, ID: 4, Real: minusNought()}),
		{Client: 1},
		{Stamp: 1},
		{Op: api.Op{Key: "k"}},
		{Op: api.Op{ID: 1}},
		{Op: api.Op{Real: minusNought()}},
		{Op: api.Op{Real: math.NaN()}},
		{Op: join(4)},
	}
}

// anyOp answers an operation that is right.
func anyOp(r *rand.Rand) api.Op {
	key := []string{"a", "b", "c", "k"}[r.Intn(4)]
	switch r.Intn(10) {
	case 0, 1, 2:
		return join(r.Intn(ids))
	case 3, 4:
		return leave(r.Intn(ids))
	case 5:
		return get(key)
	case 6:
		return add(key, anyReal(r))
	case 7:
		return api.Op{Kind: api.OpMax, Key: key, Real: anyReal(r)}
	case 8:
		return api.Op{Kind: api.OpCut, Key: key}
	}
	return put(key, anyReal(r))
}

func anyReal(r *rand.Rand) float64 {
	switch r.Intn(4) {
	case 0:
		return nanOf(0x7FF0000000000001 + uint64(r.Intn(99)))
	case 1:
		return nanOf([]uint64{0x7FF0000000000000, 0xFFF0000000000000, 1 << 63}[r.Intn(3)])
	case 2:
		return nanOf(r.Uint64())
	}
	return float64(r.Intn(9))
}

// anyLog answers requests of few clients, some of which have stamps that don't rise, come a second time, or are null.
func anyLog(r *rand.Rand, count int) []api.Request {
	var log []api.Request
	next := 1
	for range count {
		switch n := r.Intn(12); {
		case n == 0:
			log = append(log, null())
		case n < 3 && len(log) > 0:
			log = append(log, log[r.Intn(len(log))])
		case n == 3:
			log = append(log, request(1+r.Intn(3), 1+r.Intn(next), anyOp(r)))
		default:
			log = append(log, request(1+r.Intn(3), next, anyOp(r)))
			next += r.Intn(3)
		}
	}
	return log
}

// tell answers a text of any value of package api's types. Reals stand as their bits, and a list that is nil as one that is empty.
func tell(list ...any) string {
	var b strings.Builder
	for _, x := range list {
		tellValue(&b, reflect.ValueOf(x))
	}
	return b.String()
}

func tellValue(b *strings.Builder, v reflect.Value) {
	switch v.Kind() {
	case reflect.Int:
		fmt.Fprintf(b, "%d ", v.Int())
	case reflect.Bool:
		fmt.Fprintf(b, "%t ", v.Bool())
	case reflect.String:
		fmt.Fprintf(b, "%q ", v.String())
	case reflect.Float64:
		fmt.Fprintf(b, "%016x ", math.Float64bits(v.Float()))
	case reflect.Slice:
		b.WriteString("[")
		for i := range v.Len() {
			tellValue(b, v.Index(i))
		}
		b.WriteString("]")
	case reflect.Struct:
		b.WriteString("{")
		for i := range v.NumField() {
			tellValue(b, v.Field(i))
		}
		b.WriteString("}")
	default:
		panic("no such value in package api")
	}
}

// each goes through a value and all that stands in it, what is around first.
func each(v reflect.Value, do func(reflect.Value)) {
	do(v)
	switch v.Kind() {
	case reflect.Slice:
		for i := range v.Len() {
			each(v.Index(i), do)
		}
	case reflect.Struct:
		for i := range v.NumField() {
			each(v.Field(i), do)
		}
	}
}

// clone answers a copy of the value that shares no list with it.
func clone[T any](x T) T {
	each(reflect.ValueOf(&x).Elem(), func(v reflect.Value) {
		if v.Kind() == reflect.Slice && !v.IsNil() {
			fresh := reflect.MakeSlice(v.Type(), v.Len(), v.Len())
			reflect.Copy(fresh, v)
			v.Set(fresh)
		}
	})
	return x
}

// loan is memory that is a caller's, and what writes over it.
type loan []func()

// lend makes the value that the pointer shows one all of which, lists and texts, is the caller's. Each list has room behind it, so that whoever appends to it writes into the caller's memory.
func (l *loan) lend(pointer any) {
	each(reflect.ValueOf(pointer).Elem(), func(v reflect.Value) {
		switch v.Kind() {
		case reflect.Slice:
			fresh := reflect.MakeSlice(v.Type(), v.Len(), v.Len()+3)
			reflect.Copy(fresh, v)
			v.Set(fresh)
		case reflect.String:
			v.SetString(l.text(v.String()))
		}
	})
	*l = append(*l, func() { spoil(pointer) })
}

// text answers the text in bytes of the caller's.
func (l *loan) text(s string) string {
	bytes := []byte(s)
	if len(bytes) == 0 {
		return s
	}
	*l = append(*l, func() {
		for i := range bytes {
			bytes[i] = '!'
		}
	})
	return unsafe.String(&bytes[0], len(bytes))
}

func (l *loan) spoil() {
	for _, spoil := range *l {
		spoil()
	}
}

// spoil writes over all numbers, texts and reals in the value that the pointer shows, also in the room behind its lists.
func spoil(pointer any) {
	each(reflect.ValueOf(pointer).Elem(), func(v reflect.Value) {
		switch v.Kind() {
		case reflect.Int:
			v.SetInt(-7)
		case reflect.String:
			v.SetString("spoilt")
		case reflect.Float64:
			v.SetFloat(-7)
		case reflect.Slice:
			room := v.Slice(0, v.Cap())
			for i := v.Len(); i < v.Cap(); i++ {
				spoil(room.Index(i).Addr().Interface())
			}
		}
	})
}
