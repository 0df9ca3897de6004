package room_test

import (
	"math/rand"
	"slices"
	"strings"
	"testing"

	"wringing/api"
	"wringing/room"
)

// opened returns a room that holds facts.
func opened(t *testing.T, id int, l ...api.Fact) *room.Room {
	t.Helper()
	r, e := room.Open(id, nil)
	if e != api.OK || r == nil {
		t.Fatal("P8.10: Open:", id, e)
	}
	if n, e := r.Take(l); n != len(l) || e != api.OK {
		t.Fatal("P8.12: Take:", l, n, e)
	}
	return r
}

// diskOf returns the records of facts, one behind the other.
func diskOf(l ...api.Fact) []string {
	var disk []string
	for i, f := range l {
		text, _ := room.Encode(f)
		disk = append(disk, recordOf(i+1, text)...)
	}
	return disk
}

// sorted returns facts in the order of their names.
func sorted(l []api.Fact) []api.Fact {
	return slices.SortedFunc(slices.Values(l), func(f, g api.Fact) int { return compareNames(nameOf(f), nameOf(g)) })
}

// checkRoom holds what a room tells of itself against the facts that it has to hold, in the order in which it got them.
func checkRoom(t *testing.T, what string, r *room.Room, id int, l []api.Fact) {
	t.Helper()
	if r.ID() != id {
		t.Error(what, "ID:", r.ID(), id)
	}
	if got := r.Facts(); !sameFacts(got, sorted(l)) {
		t.Error(what, "Facts:", got, l)
	}
	if got := r.Disk(); !slices.Equal(got, diskOf(l...)) {
		t.Errorf("%s Disk: %q %q", what, got, diskOf(l...))
	}
	have := make([]int, api.MaxRooms)
	for _, f := range l {
		have[f.Room-1]++
	}
	if got := r.Have(); !slices.Equal(got, have) {
		t.Error(what, "Have:", got, have)
	}
}

func TestOpen(t *testing.T) {
	for _, id := range []int{0, -1, api.MaxRooms + 1, leastInt, mostInt} {
		if r, e := room.Open(id, make([]string, api.MaxSectors+1)); r != nil || e != api.ErrArg {
			t.Error("P8.10: Open:", id, r, e)
		}
	}
	if r, e := room.Open(1, make([]string, api.MaxSectors+1)); r != nil || e != api.ErrLimit {
		t.Error("P8.10: Open of too many sectors:", r, e)
	}
	l := example()
	disk := diskOf(l...)
	full := slices.Concat(disk, make([]string, api.MaxSectors-len(disk)))
	for id := 1; id <= api.MaxRooms; id++ {
		for _, x := range []struct {
			disk []string
			want []api.Fact
		}{{nil, nil}, {disk, l}, {full, l}, {make([]string, api.MaxSectors), nil}} {
			r, e := room.Open(id, x.disk)
			if e != api.OK {
				t.Fatal("P8.10: Open:", id, e)
			}
			checkRoom(t, "P8.10:", r, id, x.want)
		}
	}
}

// TestWholeRecords opens disks whose records are damaged: all ahead of the first one that is damaged are held.
func TestWholeRecords(t *testing.T) {
	l := append(example(), fact(3, 1, 7, long().Compare), fact(3, 2, 7, use(1, 1)))
	disk := diskOf(l...)
	starts := map[int]int{}
	for i := range l {
		starts[len(diskOf(l[:i]...))] = i
	}
	which := 0
	for i, sector := range disk {
		if at, ok := starts[i]; ok {
			which = at
		}
		damaged := []string{"", sector + " ", sector + "\n", strings.Replace(sector, " ", "  ", 1), " " + sector, sector[1:], strings.ToUpper(sector) + "x", strings.Repeat(sector, 2)}
		for digit := range "0123456789" {
			changed := strings.Replace(sector, string(rune('0'+digit)), string(rune('0'+(digit+1)%10)), 1)
			if changed != sector {
				damaged = append(damaged, changed)
			}
		}
		for _, d := range damaged {
			all := slices.Clone(disk)
			all[i] = d
			r, e := room.Open(2, all)
			if e != api.OK {
				t.Fatal("P8.10: Open:", e)
			}
			checkRoom(t, "P8.10, P8.18: a damaged sector:", r, 2, l[:which])
		}
		r, _ := room.Open(2, disk[:i])
		checkRoom(t, "P8.10, P8.18: a disk that is cut off:", r, 2, l[:which])
		r, _ = room.Open(2, slices.Delete(slices.Clone(disk), i, i+1))
		checkRoom(t, "P8.10: a sector is missing:", r, 2, l[:which])
		r, _ = room.Open(2, slices.Insert(slices.Clone(disk), i, ""))
		checkRoom(t, "P8.10: a sector too much:", r, 2, l[:which])
	}
}

// TestForeignRecords opens disks with records that are no records of a room, though each one is well written.
func TestForeignRecords(t *testing.T) {
	a := facts(1, 1, 5, use(1, 1), use(1, 2), use(1, 3))
	b := facts(2, 1, 4, use(1, 1), use(1, 2))
	early := fact(1, 3, 4, use(1, 3))
	record := func(n int, f api.Fact) []string {
		sectors, e := room.Record(n, f)
		if e != api.OK {
			t.Fatal("P8.9: Record:", n, f, e)
		}
		return sectors
	}
	invalid := recordOf(2, "fact 1 2 5 3\nuse 0 1\n")
	for i, x := range []struct {
		disk []string
		want []api.Fact
	}{
		{slices.Concat(record(1, a[0]), record(2, a[1]), record(3, a[2])), a},
		{slices.Concat(record(1, a[0]), record(2, b[0]), record(3, a[1]), record(4, b[1])), []api.Fact{a[0], b[0], a[1], b[1]}},
		{slices.Concat(record(2, a[0]), record(3, a[1])), nil},
		{slices.Concat(record(1, a[0]), record(3, a[1])), a[:1]},
		{slices.Concat(record(1, a[0]), record(1, a[1])), a[:1]},
		{slices.Concat(record(1, a[0]), record(2, a[2])), a[:1]},
		{slices.Concat(record(1, a[0]), record(2, a[0])), a[:1]},
		{record(1, a[1]), nil},
		{slices.Concat(record(1, a[0]), record(2, a[1]), record(3, early)), a[:2]},
		{slices.Concat(record(1, a[0]), invalid, record(3, a[2])), a[:1]},
		{slices.Concat(record(1, a[0]), []string{"record 2 0 0 0"}, record(2, a[1])), a[:1]},
		{slices.Concat(record(1, a[0]), []string{"record 2 -1 0 0"}, record(2, a[1])), a[:1]},
		{slices.Concat(record(1, a[0]), []string{"record 2 9999999999999999999 0 0"}), a[:1]},
		{slices.Concat(record(1, a[0]), []string{"record 2"}), a[:1]},
		{slices.Concat(record(1, a[0]), []string{"record 2 1 22 7"}), a[:1]},
	} {
		r, e := room.Open(3, x.disk)
		if e != api.OK {
			t.Fatal("P8.10: Open:", i, e)
		}
		checkRoom(t, "P8.10: foreign records:", r, 3, x.want)
	}
}

// fullRooms are as many facts as a room can hold, of four rooms.
func fullRooms() []api.Fact {
	var l []api.Fact
	for i := range api.MaxFacts {
		l = append(l, fact(1+i/api.MaxNo, 1+i%api.MaxNo, 3, use(1, i)))
	}
	return l
}

func TestFullDisk(t *testing.T) {
	l := fullRooms()
	r := opened(t, 4, l...)
	checkRoom(t, "P8.12: a full room:", r, 4, l)
	more := fact(4, 21, 3, use(1, 1))
	if n, e := r.Take([]api.Fact{l[5], more}); n != 0 || e != api.ErrLimit {
		t.Error("P8.12: Take of a full room:", n, e)
	}
	if f, e := r.Write(fact(0, 0, 3, use(1, 1))); !isNothing(f) || e != api.ErrLimit {
		t.Error("P8.11: Write of a full room:", f, e)
	}
	checkRoom(t, "P8.12: a full room:", r, 4, l)
	text, _ := room.Encode(more)
	for _, disk := range [][]string{r.Disk(), slices.Concat(r.Disk(), recordOf(201, text))} {
		again, e := room.Open(4, disk)
		if e != api.OK {
			t.Fatal("P8.10: Open of a full disk:", e)
		}
		checkRoom(t, "P8.10: a full disk:", again, 4, l)
	}
}

func TestWrite(t *testing.T) {
	r := opened(t, 2, example()[:6]...)
	held := example()[:6]
	for i, what := range []any{span(0, 3), use(1, 5), cold(4, []int{1}, []int{2}, 3, 4), mix(4, 1, 2), name(2, 1)} {
		f := fact(0, 0, 7+i/2, what)
		want := f
		want.Room, want.No = 2, i+1
		got, e := r.Write(f)
		if !same(got, want) || e != api.OK {
			t.Error("P8.11: Write:", got, e)
		}
		held = append(held, want)
		checkRoom(t, "P8.11:", r, 2, held)
	}
	for i, x := range []struct {
		f api.Fact
		e api.Errno
	}{
		{fact(2, 0, 9, span(0, 3)), api.ErrArg},
		{fact(0, 6, 9, span(0, 3)), api.ErrArg},
		{fact(0, 0, 9, span(4, 3)), api.ErrArg},
		{fact(0, 0, -1, span(0, 3)), api.ErrArg},
		{fact(0, 0, api.MaxKnown+1, span(0, 3)), api.ErrArg},
		{fact(0, 0, 8, span(0, 3)), api.ErrState},
		{fact(0, 0, 0, span(0, 3)), api.ErrState},
		{fact(0, 0, 8, span(4, 3)), api.ErrArg},
		{fact(0, 0, 9, name(2, 6)), api.ErrArg}, // its own name
		{api.Fact{}, api.ErrArg},
	} {
		if f, e := r.Write(x.f); !isNothing(f) || e != x.e {
			t.Error("P8.11: Write:", i, f, e)
		}
	}
	checkRoom(t, "P8.11: an error changes nothing:", r, 2, held)
	// What other rooms know does not matter.
	if f, e := r.Write(fact(0, 0, 9, span(0, 3))); f.No != 6 || e != api.OK {
		t.Error("P8.11: Write:", f, e)
	}
}

func TestWriteOfMany(t *testing.T) {
	r := opened(t, 5)
	for i := range api.MaxNo {
		if f, e := r.Write(fact(0, 0, i, use(1, i))); f.No != i+1 || f.Room != 5 || e != api.OK {
			t.Fatal("P8.11: Write:", f, e)
		}
	}
	for i, x := range []struct {
		f api.Fact
		e api.Errno
	}{
		{fact(0, 0, 99, use(1, 1)), api.ErrLimit},
		{fact(0, 0, 99, use(0, 1)), api.ErrLimit},
		{fact(0, 0, 3, use(1, 1)), api.ErrLimit},
		{fact(5, 0, 99, use(1, 1)), api.ErrArg},
		{fact(0, 61, 99, use(1, 1)), api.ErrArg},
	} {
		if f, e := r.Write(x.f); !isNothing(f) || e != x.e {
			t.Error("P8.11: Write of too many:", i, f, e)
		}
	}
	if n, e := r.Take(facts(4, 1, 1, use(1, 1))); n != 1 || e != api.OK {
		t.Error("P8.12: Take:", n, e)
	}
}

func TestTake(t *testing.T) {
	l := example()
	other := func(f api.Fact) api.Fact {
		f.Known++
		return f
	}
	empty := l[0]
	empty.Compare.A, empty.Mix.Labels = []int{}, []int{}
	for i, x := range []struct {
		held, l []api.Fact
		n       int
		e       api.Errno
		added   []api.Fact
	}{
		{nil, nil, 0, api.OK, nil},
		{nil, l, 10, api.OK, l},
		{nil, slices.Concat(l[6:], l[:6]), 10, api.OK, slices.Concat(l[6:], l[:6])},
		{nil, l[1:], 4, api.OK, l[6:]}, // The fact 1 of the room 1 is missing.
		{nil, slices.Concat(l[3:6], l[:3]), 3, api.OK, l[:3]},
		{nil, slices.Concat(l[:2], l[1:4], l[:1]), 4, api.OK, l[:4]},
		{l[:3], l, 7, api.OK, l[3:]},
		{l, l, 0, api.OK, nil},
		{l[:1], []api.Fact{empty}, 0, api.OK, nil},
		{nil, []api.Fact{{}}, 0, api.ErrArg, nil},
		{nil, []api.Fact{l[0], {}, l[1]}, 0, api.ErrArg, l[:1]},
		{l[:3], []api.Fact{other(l[1])}, 0, api.ErrClash, nil},
		{nil, []api.Fact{l[0], l[1], other(l[0]), l[2]}, 0, api.ErrClash, l[:2]},
		{nil, []api.Fact{other(l[0]), l[1]}, 0, api.ErrClash, []api.Fact{other(l[0])}},
		{nil, []api.Fact{other(l[0]), l[2]}, 1, api.OK, []api.Fact{other(l[0])}}, // It is not next.
		{nil, []api.Fact{l[0], other(l[1])}, 2, api.OK, []api.Fact{l[0], other(l[1])}},
		{nil, []api.Fact{l[6], other(l[0])}, 2, api.OK, []api.Fact{l[6], other(l[0])}}, // Rooms do not wait for each other.
	} {
		r := opened(t, 2, x.held...)
		if n, e := r.Take(x.l); n != x.n || e != x.e {
			t.Error("P8.12: Take:", i, n, e)
		}
		checkRoom(t, "P8.12:", r, 2, slices.Concat(x.held, x.added))
	}
	// The limit comes behind all that else can be said of a fact.
	full := fullRooms()
	for i, x := range []struct {
		f api.Fact
		e api.Errno
	}{
		{full[7], api.OK}, {other(full[7]), api.ErrClash}, {fact(4, 22, 3, use(1, 1)), api.OK},
		{fact(4, 21, 2, use(1, 1)), api.ErrClash}, {fact(4, 21, 3, use(0, 1)), api.ErrArg}, {fact(4, 21, 3, use(1, 1)), api.ErrLimit}, {fact(5, 1, 0, use(1, 1)), api.ErrLimit},
	} {
		if n, e := opened(t, 1, full...).Take([]api.Fact{x.f}); n != 0 || e != x.e {
			t.Error("P8.12: Take of a full room:", i, n, e)
		}
	}
}

func TestSince(t *testing.T) {
	l := append(example(), facts(6, 1, 1, use(1, 1), use(1, 2))...)
	r := opened(t, 3, slices.Concat(l[6:], l[:6])...)
	for i, x := range []struct {
		have []int
		want []api.Fact
	}{
		{make([]int, 6), l},
		{[]int{6, 4, 0, 0, 0, 2}, nil},
		{[]int{60, 60, 60, 60, 60, 60}, nil},
		{[]int{5, 4, 0, 0, 0, 2}, l[5:6]},
		{[]int{5, 1, 9, 9, 9, 1}, slices.Concat(l[5:6], l[7:10], l[11:])},
		{r.Have(), nil},
	} {
		if got, e := r.Since(x.have); !sameFacts(got, x.want) || e != api.OK {
			t.Error("P8.13: Since:", i, got, e)
		}
	}
	for _, have := range [][]int{nil, make([]int, 5), make([]int, 7), {0, 0, 0, 0, 0, -1}, {61, 0, 0, 0, 0, 0}, {0, 0, leastInt, 0, 0, 0}, {0, 0, 0, mostInt, 0, 0}} {
		if got, e := r.Since(have); got != nil || e != api.ErrArg {
			t.Error("P8.13: Since:", have, got, e)
		}
	}
}

// TestExchange lets rooms write, lose sectors, and exchange what they hold over a post that loses, repeats and reorders.
func TestExchange(t *testing.T) {
	r := rand.New(rand.NewSource(86))
	for range 30 {
		rooms := make([]*room.Room, 4)
		for i := range rooms {
			rooms[i] = opened(t, i+1)
		}
		var written []api.Fact
		isSent := map[api.Name]bool{}
		send := func(from, to int, post func(l []api.Fact) []api.Fact) int {
			l, e := rooms[from].Since(rooms[to].Have())
			if e != api.OK {
				t.Fatal("P8.13: Since:", e)
			}
			l = post(l)
			for _, f := range l {
				isSent[nameOf(f)] = true
			}
			n, e := rooms[to].Take(l)
			if e != api.OK {
				t.Fatal("P8.12, P8.19: Take:", l, e)
			}
			return n
		}
		for time := range 60 {
			from, to := r.Intn(4), r.Intn(4)
			switch r.Intn(3) {
			case 0:
				f, e := rooms[from].Write(fact(0, 0, time, use(1+r.Intn(3), r.Intn(9))))
				if e != api.OK {
					t.Fatal("P8.11: Write:", e)
				}
				written = append(written, f)
			case 1:
				send(from, to, func(l []api.Fact) []api.Fact { return badPost(r, l) })
			case 2:
				rooms[from] = lossy(t, r, rooms[from], &written, isSent)
			}
			for _, x := range rooms {
				checkHeld(t, x, written)
			}
		}
		for isNew := true; isNew; {
			isNew = false
			for from := range rooms {
				for to := range rooms {
					isNew = send(from, to, func(l []api.Fact) []api.Fact { return l }) > 0 || isNew
				}
			}
		}
		for _, x := range rooms {
			if !sameFacts(x.Facts(), sorted(written)) {
				t.Fatal("P8.19: Facts:", x.Facts(), written)
			}
			disk, e := room.Open(x.ID(), x.Disk())
			if e != api.OK || !sameFacts(disk.Facts(), x.Facts()) || !slices.Equal(disk.Disk(), x.Disk()) {
				t.Fatal("P8.18: Open of Disk:", e, disk.Facts(), x.Facts())
			}
		}
	}
}

// badPost loses, repeats and reorders facts.
func badPost(r *rand.Rand, l []api.Fact) []api.Fact {
	var post []api.Fact
	for _, f := range l {
		post = append(post, slices.Repeat([]api.Fact{f}, r.Intn(3))...)
	}
	if r.Intn(2) == 0 {
		r.Shuffle(len(post), func(i, j int) { post[i], post[j] = post[j], post[i] })
	}
	return post
}

// lossy opens a room again from its disk, without sectors of its last record, unless the room wrote this fact and others can have it. A fact that is lost was not written, if nobody else has it.
func lossy(t *testing.T, r *rand.Rand, x *room.Room, written *[]api.Fact, isSent map[api.Name]bool) *room.Room {
	t.Helper()
	disk := x.Disk()
	first := len(disk) - 1
	for first >= 0 && !strings.HasPrefix(disk[first], "record ") {
		first--
	}
	if first < 0 {
		return x
	}
	last, _ := room.Decode(strings.Join(disk[first+1:], ""))
	if last.Room == x.ID() && isSent[nameOf(last)] {
		return x
	}
	if r.Intn(2) == 0 {
		disk = disk[:first+r.Intn(len(disk)-first)]
	} else {
		disk[first+r.Intn(len(disk)-first)] = ""
	}
	again, e := room.Open(x.ID(), disk)
	if e != api.OK || !sameFacts(again.Facts(), without(x.Facts(), nameOf(last))) {
		t.Fatal("P8.18: Open without a sector of the last record:", e, again.Facts(), x.Facts(), last)
	}
	if last.Room == x.ID() {
		*written = without(*written, nameOf(last))
	}
	return again
}

// checkHeld holds the facts of a room against those that were written.
func checkHeld(t *testing.T, x *room.Room, written []api.Fact) {
	t.Helper()
	held := x.Facts()
	for _, f := range held {
		if !slices.ContainsFunc(written, func(g api.Fact) bool { return same(f, g) }) {
			t.Fatal("P8.19: a fact that nobody wrote:", f)
		}
	}
	if names := namesOf(held); len(slices.Compact(names)) != len(held) {
		t.Fatal("P8.19: facts with the same name:", held)
	}
}
