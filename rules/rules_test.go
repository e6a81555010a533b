// Package rules_test calls everything with odd arguments: no call panics, each
// ends, and an error leaves all other results zero.
package rules_test

import (
	"math"
	"reflect"
	"slices"
	"strings"
	"testing"

	"seisin/access"
	"seisin/api"
	"seisin/arena"
	"seisin/asid"
	"seisin/audit"
	"seisin/boot"
	"seisin/cap"
	"seisin/carve"
	"seisin/console"
	"seisin/cores"
	"seisin/decode"
	"seisin/derive"
	"seisin/ends"
	"seisin/fault"
	"seisin/hold"
	"seisin/ipc"
	"seisin/judge"
	"seisin/kernel"
	"seisin/kinds"
	"seisin/lookup"
	"seisin/part"
	"seisin/phys"
	"seisin/pte"
	"seisin/queue"
	"seisin/realm"
	"seisin/reap"
	"seisin/rights"
	"seisin/script"
	"seisin/slots"
	"seisin/thread"
	"seisin/tlb"
	"seisin/tree"
	"seisin/vaddr"
	"seisin/vspace"
	"seisin/walk"
	"seisin/word"
	"seisin/world"
)

// functions are those without a receiver.
func functions() []any {
	return []any{
		word.Field, word.With, word.Ones, word.Fits, phys.New, pte.May, pte.Encode, pte.Decode, vaddr.Split, vaddr.Join, vaddr.Page, vaddr.Base, vaddr.Index,
		walk.At, walk.Walk, walk.Depth, tlb.New, cores.New, access.Load, access.Store, rights.May, rights.Mask, rights.Has, rights.Text, rights.Parse,
		kinds.Frames, kinds.Slots, kinds.Name, kinds.Of, carve.Carve, carve.Meet, carve.Within, arena.New, cap.May, cap.Encode, cap.Decode, cap.Alike,
		derive.Copy, derive.Mint, slots.New, lookup.Resolve, lookup.Path, tree.New, hold.New, asid.New, thread.New, thread.May, queue.New, ends.New, realm.New,
		vspace.TableLive, vspace.FrameLive, vspace.MapTable, vspace.UnmapTable, vspace.MapFrame, vspace.UnmapFrame, vspace.Enable, vspace.Assign, vspace.Unhook, vspace.Off,
		reap.Delete, reap.Revoke, ipc.Send, ipc.Recv, ipc.Reply, fault.Do, fault.Again, decode.Decode, decode.Encode, kernel.New, boot.May, boot.New, world.New, world.Run,
		judge.Space, judge.Holds, judge.First, judge.Records, audit.Check, audit.Stale, part.Reach, part.Slots, part.Leans, part.Maps, part.Apart,
		script.Line, script.Print, script.Parse, console.Run,
	}
}

// maker makes arguments, without a random source.
type maker struct {
	seed    uint64
	objects map[reflect.Type]reflect.Value
}

func (m *maker) next(n int) int {
	m.seed = m.seed*6364136223846793005 + 1442695040888963407
	return int(m.seed >> 33 % uint64(n))
}

var oddInts = []int{0, 1, 2, 3, 4, 5, 6, 7, 8, 9, 15, 16, 63, 64, 511, 512, 4095, 4096, 65535, -1, -2, 1 << 24, 1 << 32, 1 << 62, math.MinInt, math.MaxInt}

var oddTexts = []string{"", "node", "r-g", "boot 16 1 1 0\npick 0 1\ncaps", "pick 0 1\n", "load 0 08", "\x00\xff\n \n", "call 0 18 0 0 0 0 0 0"}

// object returns a fresh object of that type, or nil.
func (m *maker) object(t reflect.Type) reflect.Value {
	if m.next(12) == 0 {
		return reflect.Zero(t)
	}
	if x, ok := m.objects[t]; ok && m.next(40) > 0 {
		return x
	}
	k, _, _ := boot.New(api.Config{Frames: 40, Cores: 2, Threads: 2, Shared: true})
	w, _ := world.New(api.Config{Frames: 40, Cores: 2, Threads: 2, Shared: true})
	r := k.Realm()
	for _, x := range []any{k, w, r, r.Mem(), r.Cores(), r.Arena(), r.Hold(), r.Hold().Slots(), r.Asids(), r.Threads(), r.Queue(), r.Ends(), tlb.New(), tree.New()} {
		m.objects[reflect.TypeOf(x)] = reflect.ValueOf(x)
	}
	// The slots of a hold may only be read.
	s := slots.New()
	s.Add(2, 16)
	m.objects[reflect.TypeOf(s)] = reflect.ValueOf(s)
	return m.objects[t]
}

// types are the types of all objects, in the order of their names.
func (m *maker) types() []reflect.Type {
	for len(m.objects) == 0 {
		m.object(reflect.TypeOf(tlb.New()))
	}
	var list []reflect.Type
	for x := range m.objects {
		list = append(list, x)
	}
	slices.SortFunc(list, func(a, b reflect.Type) int { return strings.Compare(a.String(), b.String()) })
	return list
}

func (m *maker) value(t reflect.Type, deep int) reflect.Value {
	v := reflect.New(t).Elem()
	switch t.Kind() {
	case reflect.Int:
		n := oddInts[m.next(len(oddInts))]
		if m.next(3) > 0 {
			n = m.next(20)
		}
		v.SetInt(int64(n))
	case reflect.Uint64:
		n := uint64(oddInts[m.next(len(oddInts))])
		if m.next(3) > 0 {
			n = uint64(m.next(20) * 8)
		}
		v.SetUint(n)
	case reflect.Bool:
		v.SetBool(m.next(2) == 0)
	case reflect.String:
		v.SetString(oddTexts[m.next(len(oddTexts))])
	case reflect.Struct:
		for i := range t.NumField() {
			v.Field(i).Set(m.value(t.Field(i).Type, deep+1))
		}
	case reflect.Array:
		for i := range t.Len() {
			v.Index(i).Set(m.value(t.Elem(), deep+1))
		}
	case reflect.Slice:
		for range m.next(12) {
			v = reflect.Append(v, m.value(t.Elem(), deep+1))
		}
	case reflect.Pointer:
		return m.object(t)
	}
	return v
}

// nothing reports whether a value is zero, where a list that is empty is one
// that is nil.
func nothing(v reflect.Value) bool {
	switch v.Kind() {
	case reflect.Slice:
		return v.Len() == 0
	case reflect.Struct:
		for i := range v.NumField() {
			if !nothing(v.Field(i)) {
				return false
			}
		}
		return true
	}
	return v.IsZero()
}

// zeroBesideErrors checks R2, but for the calls of which a chapter says otherwise.
func zeroBesideErrors(t *testing.T, name string, results []reflect.Value) {
	t.Helper()
	// What List of ends returns at last does not tell whether there is something.
	if len(results) < 2 || name == "*ends.Ends.List" {
		return
	}
	last := results[len(results)-1]
	code, isCode := last.Interface().(api.Errno)
	if isCode && (code == api.OK || code == api.ErrBudget || code == api.ErrForm) || !isCode && (last.Kind() != reflect.Bool || last.Bool()) {
		return
	}
	for i, r := range results[:len(results)-1] {
		if !nothing(r) {
			t.Errorf("%s: beside %v, result %d is %v", name, last, i, r)
		}
	}
}

func TestR1R2OddArguments(t *testing.T) {
	m := &maker{seed: 5, objects: map[reflect.Type]reflect.Value{}}
	call := func(name string, f reflect.Value) {
		var args []reflect.Value
		defer func() {
			if e := recover(); e != nil {
				t.Fatalf("%s(%v) panics: %v", name, args, e)
			}
		}()
		for i := range f.Type().NumIn() {
			args = append(args, m.value(f.Type().In(i), 0))
		}
		zeroBesideErrors(t, name, f.Call(args))
	}
	types := m.types()
	for round := range 400 {
		for _, f := range functions() {
			call("function "+reflect.TypeOf(f).String(), reflect.ValueOf(f))
		}
		for _, x := range types {
			for i := range x.NumMethod() {
				call(x.String()+"."+x.Method(i).Name, m.object(x).Method(i))
			}
		}
		if t.Failed() {
			t.Fatalf("round %d", round)
		}
	}
}

// TestR3NilObjects calls every method of a nil object.
func TestR3NilObjects(t *testing.T) {
	m := &maker{seed: 6, objects: map[reflect.Type]reflect.Value{}}
	for _, x := range m.types() {
		for i := range x.NumMethod() {
			f := reflect.Zero(x).Method(i)
			for range 20 {
				var args []reflect.Value
				for j := range f.Type().NumIn() {
					args = append(args, m.value(f.Type().In(j), 0))
				}
				for _, r := range f.Call(args) {
					code, isCode := r.Interface().(api.Errno)
					if isCode && code != api.ErrNil || !isCode && !nothing(r) {
						t.Errorf("%v.%s of nil returns %v", x, x.Method(i).Name, r)
					}
				}
			}
		}
	}
}
