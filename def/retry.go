package def

import (
	"voyage/api"
	"voyage/dec"
)

// What a retrier has that doesn't say it.
const (
	usualInterval = 1
	usualAttempts = 3
	usualRate     = 2
)

// retrier is a retrier that is read or told.
type retrier api.Retrier

func retrierFields() []field[retrier] {
	return []field[retrier]{
		{"ErrorEquals", "ErrorEquals", (*retrier).readErrors, (*retrier).tellErrors},
		{"IntervalSeconds", "", (*retrier).readInterval, (*retrier).tellInterval},
		{"MaxAttempts", "", (*retrier).readMost, (*retrier).tellMost},
		{"BackoffRate", "", (*retrier).readRate, (*retrier).tellRate},
		{"MaxDelaySeconds", "", (*retrier).readMaxDelay, (*retrier).tellMaxDelay},
	}
}

func readRetrier(n *node) api.Retrier {
	r := retrier{Interval: usualInterval, Most: usualAttempts, Rate: dec.Of(usualRate)}
	readFields(&r, n, retrierFields())
	return api.Retrier(r)
}

func tellRetrier(r *api.Retrier) api.Value {
	return tellFields((*retrier)(r), retrierFields())
}

func (r *retrier) readErrors(n *node)            { r.Errors = n.names() }
func (r *retrier) tellErrors() (api.Value, bool) { return tellNames(r.Errors), true }

func (r *retrier) readInterval(n *node)            { r.Interval = n.whole() }
func (r *retrier) tellInterval() (api.Value, bool) { return tellWhole(r.Interval), true }

func (r *retrier) readMost(n *node)            { r.Most = n.whole() }
func (r *retrier) tellMost() (api.Value, bool) { return tellWhole(r.Most), true }

func (r *retrier) readRate(n *node)            { r.Rate = n.number() }
func (r *retrier) tellRate() (api.Value, bool) { return tellNumber(r.Rate), true }

func (r *retrier) readMaxDelay(n *node)            { r.MaxDelay = n.whole() }
func (r *retrier) tellMaxDelay() (api.Value, bool) { return tellWhole(r.MaxDelay), r.MaxDelay != 0 }

// catcher is a catcher that is read or told.
type catcher api.Catcher

func catcherFields() []field[catcher] {
	return []field[catcher]{
		{"ErrorEquals", "ErrorEquals", (*catcher).readErrors, (*catcher).tellErrors},
		{"Next", "Next", (*catcher).readNext, (*catcher).tellNext},
		{"ResultPath", "", (*catcher).readResult, (*catcher).tellResult},
	}
}

func readCatcher(n *node) api.Catcher {
	var c catcher
	readFields(&c, n, catcherFields())
	return api.Catcher(c)
}

func tellCatcher(c *api.Catcher) api.Value {
	return tellFields((*catcher)(c), catcherFields())
}

func (c *catcher) readErrors(n *node)            { c.Errors = n.names() }
func (c *catcher) tellErrors() (api.Value, bool) { return tellNames(c.Errors), true }

func (c *catcher) readNext(n *node)            { c.Next = n.name() }
func (c *catcher) tellNext() (api.Value, bool) { return tellText(c.Next), true }

func (c *catcher) readResult(n *node)            { c.Result = n.plainWay() }
func (c *catcher) tellResult() (api.Value, bool) { return tellWay(c.Result) }
