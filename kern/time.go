package kern

import (
	"voyage/api"
	"voyage/dec"
	"voyage/path"
	"voyage/stamp"
)

// The kinds of a Wait, by what tells when it ends.
const (
	bySeconds = iota + 1
	bySecondsPath
	byTimestamp
	byTimestampPath
)

// timer tells when a Wait ends.
type timer struct {
	ticks int64
	fixed bool // ticks tells the moment itself, else how long it lies behind now
}

// asTime gives a number as a time.
func asTime(n int64) int64 { return min(max(n, 0), api.MaxTime) }

func isTime(n int64) bool { return n == asTime(n) }

// behind gives the time that lies so many ticks behind now, which is a time. The ticks are cut down ahead of adding: the greatest ones would wrap round.
func behind(now, ticks int64) int64 { return asTime(now + min(ticks, api.MaxTime)) }

// deadline gives the time of a frame's EvSet at now.
func (f *frame) deadline(now int64) int64 {
	if f.Phase == api.Delayed {
		return behind(now, f.Delay)
	}
	t, _ := f.timer()
	if t.fixed {
		return max(now, asTime(t.ticks))
	}
	return behind(now, t.ticks)
}

// earliest gives the least time that a frame's EvSet may have, at whatever now.
func (f *frame) earliest() int64 {
	if f.Phase == api.Delayed {
		return 0
	}
	t, _ := f.timer()
	if t.fixed {
		return asTime(t.ticks)
	}
	return 0
}

// timer gives that of a Wait; false, if it has none, or there is nothing to work on.
func (f *frame) timer() (timer, bool) {
	in, name := f.in()
	if name != noName {
		return timer{}, false
	}
	switch f.state.WaitKind {
	case bySeconds:
		return timer{ticks: max(int64(f.state.Seconds), 0)}, true
	case bySecondsPath:
		found, _ := path.Get(f.state.AtPath, in, f.context())
		return secondsTimer(found)
	case byTimestamp:
		return fixedTimer(f.state.Until), true
	case byTimestampPath:
		found, _ := path.Get(f.state.AtPath, in, f.context())
		return stampTimer(found)
	}
	return timer{}, false
}

// secondsTimer gives that of a number that a path leads to (null, where it leads nowhere).
func secondsTimer(v api.Value) (timer, bool) {
	ticks, whole := dec.Int(v.Num)
	if v.Kind != api.Number || !whole || ticks < 0 || ticks > api.MaxDelay {
		return timer{}, false
	}
	return timer{ticks: ticks}, true
}

// stampTimer gives that of a moment's text that a path leads to.
func stampTimer(v api.Value) (timer, bool) {
	if v.Kind != api.Text {
		return timer{}, false
	}
	t, err := stamp.Parse(v.Text)
	if err != nil {
		return timer{}, false
	}
	return fixedTimer(t), true
}

// fixedTimer gives that of a moment: a part of a second isn't over ahead of its end.
func fixedTimer(t api.Instant) timer {
	t = stamp.Norm(t)
	if t.Nano > 0 && t.Sec < api.MaxTime { // a later one counts as the last tick, and the last one of all would wrap round
		t.Sec++
	}
	return timer{ticks: t.Sec, fixed: true}
}
