package crew

import (
	"sextant/api"
	"sextant/step"
)

// means tells what a kind of act does with a number, and how many numbers there are for it, from 0 on: of workers, or of places of messages. An act of no kind does nothing, as there is no number for it.
func (c *Crew) means(kind int) (act func(a int), there int) {
	workers, packets := len(c.workers), len(c.packets)
	switch kind {
	case api.ActWork:
		return c.work, workers
	case api.ActAgain:
		return c.again, workers
	case api.ActSync:
		return c.sync, workers
	case api.ActCrash:
		return c.crash, workers
	case api.ActAsk:
		return c.ask, workers
	case api.ActCarry:
		return c.carry, packets
	case api.ActLose:
		return c.lose, packets
	case api.ActTwice:
		return c.twice, packets
	}
	return nil, 0
}

func (c *Crew) work(a int) {
	w := &c.workers[a]
	if len(w.queue) == 0 {
		return
	}
	w.tick++
	for _, t := range step.Next(c.model, w.queue.take(0)) {
		if c.owners[t] == a {
			w.find(t)
		} else if w.owe(t) {
			c.sendState(a, t)
		}
	}
}

func (c *Crew) again(a int) {
	for _, s := range c.workers[a].owed {
		c.sendState(a, s)
	}
}

func (c *Crew) sync(a int) {
	w := &c.workers[a]
	w.forGood = w.seen
}

func (c *Crew) crash(a int) {
	c.workers[a].crash()
}

func (c *Crew) ask(a int) {
	w := &c.workers[a]
	c.chief.hear(a, report{asked: true, quiet: w.isQuiet(), tick: w.tick})
}

func (c *Crew) carry(place int) {
	p := c.packets.take(place)
	w := &c.workers[p.To]
	switch {
	case p.Back:
		w.settle(p.State)
	case w.find(p.State):
		w.tick++
	case w.forGood.Has(p.State):
		c.send(api.Packet{From: p.To, To: p.From, Back: true, State: p.State})
	}
}

func (c *Crew) lose(place int) {
	c.packets.take(place)
}

func (c *Crew) twice(place int) {
	c.send(c.packets[place])
}

// sendState sends a state from a worker to the one to which it belongs.
func (c *Crew) sendState(from, s int) {
	c.send(api.Packet{From: from, To: c.owners[s], State: s})
}

func (c *Crew) send(p api.Packet) {
	c.packets = append(c.packets, p)
}
